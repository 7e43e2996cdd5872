/-
  SectorLays' closures, the list that they read, and the texts that come in as an argument, opened. No conditions but how they lie.
-/
import Derived.Test.YtblmempidngcgaaSecM
import Derived.Test.YtblmempidngcgaaSecL
import Derived.Test.YtblmempidngcgaaSecOpen
import Derived.Deep.Slices
import Derived.SliceStrings
import Derived.Laws.AppendOwnNone
namespace Go.Proofs.Ytblmempidngcgaa
open Go.ChangeShapes Go.WideShapes Go.ChangeAt Go.RowKit Go.Joins Go.Deep

section
variable {H : Type} {enc : TypeId × Value → H} {w : World} {base : Nat} {spare : Nat → Bool} {held : Bool}
theorem texts_open {fuel : Nat} {A : Option Addr} {n c : Nat} {x : DataW H × List MemPlace} (h : DataW.trod enc Try.prog w base spare held fuel 41 [.slice A n c] = some x) :
    ∃ L : List ByteArray, L.length = n ∧ TextsAt w A L ∧ (A = none → n = 0 ∧ c = 0) ∧ ∀ t ∈ L, t.size ≤ maxLen := by
  rcases open_strings Try.underlying41 Try.underlying9 cellsS h with ⟨h0, _⟩ | ⟨a, len, cap, ss, hcs, _, hl, _, hss, _, hc, hz⟩
  · injection h0 with h0
    injection h0 with hA hn hc
    subst hA hn hc
    exact ⟨[], rfl, fun h => absurd h (by simp), fun _ => ⟨rfl, rfl⟩, fun t ht => by cases ht⟩
  · injection hcs with hcs
    injection hcs with hA hn hc'
    subst hA hn hc'
    have hm : n ≤ ss.length := by rw [hss]; split <;> omega
    refine ⟨ss.take n, by rw [List.length_take]; omega, fun _ => ⟨a, rfl, fun i t ht => ?_⟩, ⟨fun h => (by cases h), fun t ht => hz t (List.mem_of_mem_take ht)⟩⟩
    have hi : i < n := by have := (List.getElem?_eq_some_iff.1 ht).1; rw [List.length_take] at this; omega
    rw [List.getElem?_take_of_lt hi] at ht
    have h1 := hc i (by omega)
    rw [List.getD_eq_getElem?_getD, ht] at h1
    exact h1
end

theorem joinP_zero (s : ByteArray) : joinP s 0 = ⟨#[]⟩ := by
  apply bl_inj
  rw [joinP, bl_extract]
  simp [bl]
theorem at_count (n : Int) : ∃ m : Nat, wrap64 ((IntKind.u64.wrap n).tmod 10) = m ∧ m < 10 := by
  have h0 : 0 ≤ IntKind.u64.wrap n := by rw [IntKind.wrap_u64]; omega
  have e : (IntKind.u64.wrap n).tmod 10 = IntKind.u64.wrap n % 10 := Int.tmod_eq_emod_of_nonneg h0
  rw [e]
  generalize IntKind.u64.wrap n = z at h0
  refine ⟨(z % 10).toNat, ?_, by omega⟩
  unfold wrap64
  omega
/-- All the places. -/
def allL (a : Nat) (s : ByteArray) (stamp gen no : Int) (more : List ByteArray) : List ByteArray := List.replicate a ⟨#[]⟩ ++ layL s stamp gen no ++ more
def rdL (L : List ByteArray) (i : Int) : ByteArray := (L[i.toNat]?).getD ⟨#[]⟩
section
variable {a : Nat} {s : ByteArray} {stamp gen no : Int} {more : List ByteArray}
theorem allL_len : (allL a s stamp gen no more).length = a + cntN s.size + more.length := by simp [allL, layL_len, Nat.add_assoc]
theorem rdL_all (i : Nat) (hi : i < cntN s.size) : rdL (allL a s stamp gen no more) ((a : Int) + i) = printB (pieceI s stamp gen no i) := by
  have e : ((a : Int) + i).toNat = a + i := by omega
  have h := layL_at (stamp := stamp) (gen := gen) (no := no) hi
  unfold rdL allL
  rw [e, List.getElem?_append_left (by rw [List.length_append, List.length_replicate, layL_len]; omega), List.getElem?_append_right (by rw [List.length_replicate]; omega), List.length_replicate, show a + i - a = i by omega, h]
  rfl
theorem lays_next (hok : layOk s gen no = true) (h0 : 0 ≤ stamp) (h1 : stamp < 18446744073709551616) : nextP (rdL (allL a s stamp gen no more)) a (allL a s stamp gen no more).length gen no = some (s, (a : Int) + cntN s.size) := by
  have hc := cnt_pos s.size
  have := next_lay (rd := rdL (allL a s stamp gen no more)) (s := s) (stamp := stamp) (gen := gen) (no := no) (at_ := a) (end_ := ((allL a s stamp gen no more).length : Nat)) hok h0 h1 (fun i hi => rdL_all i hi) (by rw [allL_len]; omega) (cntN s.size) 0 ((((allL a s stamp gen no more).length : Nat) : Int) - a).toNat none (by omega) (by omega) (by rw [allL_len]; omega) (fun q h => by cases h)
  rw [joinP_zero] at this
  exact this
theorem lays_short (hok : layOk s gen no = true) (h0 : 0 ≤ stamp) (h1 : stamp < 18446744073709551616) : nextP (rdL (allL a s stamp gen no more)) a ((a : Int) + cntN s.size - 1) gen no = none :=
  next_short hok h0 h1 (fun i hi => rdL_all i hi) (by omega) _ 0 none _ (cnt_pos s.size) (fun q h => by cases h)
theorem lays_other {no' : Int} (hok : layOk s gen no = true) (h0 : 0 ≤ stamp) (h1 : stamp < 18446744073709551616) (hne : no ≠ no') (end_ : Int) : nextP (rdL (allL a s stamp gen no more)) a end_ gen no' = none := by
  have hr := rdL_all (a := a) (s := s) (stamp := stamp) (gen := gen) (no := no) (more := more) 0 (cnt_pos s.size)
  rw [show (a : Int) + ((0 : Nat) : Int) = a by omega] at hr
  refine next_other (p := pieceI s stamp gen no 0) ?_ hne
  rw [hr]
  exact piece_read (cnt_pos s.size) hok h0 h1
end
theorem own_fresh (w : World) (n : Nat) (hn : n ≤ 1000) {base : Nat} (hb : base ≤ w.heap.size) : (w.alloc (.cells (madeCells #[.string ⟨#[]⟩] n) 9)).ownsRow base 9 1 (.slice (some ⟨w.heap.size, 0, none⟩) n n) n (textsV (List.replicate n ⟨#[]⟩)) := by
  have hm : madeCells #[.string ⟨#[]⟩] n = (List.replicate n (Value.string ⟨#[]⟩)).toArray := Array.toList_inj.1 (toList_madeCells_one (.string ⟨#[]⟩) n)
  refine ⟨by simp [textsV], .inr ⟨w.heap.size, n, _, rfl, hb, made_at _ _, Nat.le_refl _, by unfold maxLen; omega, by rw [hm]; simp, by rw [hm]; simp [textsV]⟩⟩
/-- What an own row's cells hold. -/
theorem own_texts {W : World} {base n : Nat} {v : Value} {L : List ByteArray} (h : W.ownsRow base 9 1 v n (textsV L)) (h0 : 0 < n) : ∃ g cap, v = .slice (some ⟨g, 0, none⟩) n cap ∧ base ≤ g ∧ ∀ i t, L[i]? = some t → W.cell? ⟨g, i, none⟩ = some (.string t) := by
  rcases h.2 with ⟨_, e⟩ | ⟨g, cap, cur, rfl, hb, _⟩
  · omega
  · refine ⟨g, cap, rfl, hb, fun i t ht => ?_⟩
    have hl := h.1
    rw [textsV, List.length_map, Nat.mul_one] at hl
    have hi : i < n := by have := (List.getElem?_eq_some_iff.1 ht).1; omega
    rw [h.cellAt _ (by omega), textsV, List.getElem?_map, ht]
    rfl
theorem texts_cells {W : World} {ad : Addr} {L : List ByteArray} (h : ∀ i t, L[i]? = some t → W.cell? (ad.add i) = some (.string t)) : ∀ j u, (textsV L)[j]? = some u → W.cell? (ad.add j) = some u := by
  intro j u hu
  rw [textsV, List.getElem?_map] at hu
  cases ht : L[j]? with
  | none => rw [ht] at hu; cases hu
  | some t =>
    rw [ht] at hu
    rw [h j t ht]
    exact hu
theorem textsV_one (L : List ByteArray) : ∀ u ∈ textsV L, u.oneCell' = true := by
  intro u hu
  obtain ⟨t, _, rfl⟩ := List.mem_map.1 hu
  rfl

set_option maxHeartbeats 400000 in
theorem lclos1_is (b g N cap : Nat) (L : List ByteArray) (hN : L.length = N) (i : Int) (h0 : 0 ≤ i) (h2 : i < N) (W : World) (hb : W.cell? ⟨b, 0, none⟩ = some (.slice (some ⟨g, 0, none⟩) N cap)) (hg : ∀ i t, L[i]? = some t → W.cell? ⟨g, i, none⟩ = some (.string t)) :
    Calls Try.prog 21 #[.int .i64 i, .pointer (some ⟨b, 0, none⟩)] W fun e W' => e = .returned (.string (rdL L i)) ∧ W = W' := by
  obtain ⟨k, rfl⟩ : ∃ k : Nat, i = k := ⟨i.toNat, by omega⟩
  have hk : k < L.length := by omega
  obtain ⟨t, ht⟩ : ∃ t, L[k]? = some t := ⟨_, List.getElem?_eq_getElem hk⟩
  have hc := hg k t ht
  have HR := Lib.hid (show rdL L (k : Int) = t by unfold rdL; rw [Int.toNat_natCast, ht]; rfl)
  clear hg ht hk hN
  go_enter Try.func21, Try.ntmps21
  go_wp2_with fail
  go_ret
  exact ⟨ret_str HR.out.symm, rfl⟩

set_option maxHeartbeats 400000 in
theorem lclos2_is (b g N cap : Nat) (L : List ByteArray) (hN : L.length = N) (i : Int) (h0 : 0 ≤ i) (h2 : i < N) (W : World) (hb : W.cell? ⟨b, 0, none⟩ = some (.slice (some ⟨g, 0, none⟩) N cap)) (hg : ∀ i t, L[i]? = some t → W.cell? ⟨g, i, none⟩ = some (.string t)) :
    Calls Try.prog 22 #[.int .i64 i, .pointer (some ⟨b, 0, none⟩)] W fun e W' => e = .returned (.string (rdL L i)) ∧ W = W' := by
  obtain ⟨k, rfl⟩ : ∃ k : Nat, i = k := ⟨i.toNat, by omega⟩
  have hk : k < L.length := by omega
  obtain ⟨t, ht⟩ : ∃ t, L[k]? = some t := ⟨_, List.getElem?_eq_getElem hk⟩
  have hc := hg k t ht
  have HR := Lib.hid (show rdL L (k : Int) = t by unfold rdL; rw [Int.toNat_natCast, ht]; rfl)
  clear hg ht hk hN
  go_enter Try.func22, Try.ntmps22
  go_wp2_with fail
  go_ret
  exact ⟨ret_str HR.out.symm, rfl⟩

set_option maxHeartbeats 400000 in
theorem lclos3_is (b g N cap : Nat) (L : List ByteArray) (hN : L.length = N) (i : Int) (h0 : 0 ≤ i) (h2 : i < N) (W : World) (hb : W.cell? ⟨b, 0, none⟩ = some (.slice (some ⟨g, 0, none⟩) N cap)) (hg : ∀ i t, L[i]? = some t → W.cell? ⟨g, i, none⟩ = some (.string t)) :
    Calls Try.prog 23 #[.int .i64 i, .pointer (some ⟨b, 0, none⟩)] W fun e W' => e = .returned (.string (rdL L i)) ∧ W = W' := by
  obtain ⟨k, rfl⟩ : ∃ k : Nat, i = k := ⟨i.toNat, by omega⟩
  have hk : k < L.length := by omega
  obtain ⟨t, ht⟩ : ∃ t, L[k]? = some t := ⟨_, List.getElem?_eq_getElem hk⟩
  have hc := hg k t ht
  have HR := Lib.hid (show rdL L (k : Int) = t by unfold rdL; rw [Int.toNat_natCast, ht]; rfl)
  clear hg ht hk hN
  go_enter Try.func23, Try.ntmps23
  go_wp2_with fail
  go_ret
  exact ⟨ret_str HR.out.symm, rfl⟩
end Go.Proofs.Ytblmempidngcgaa
