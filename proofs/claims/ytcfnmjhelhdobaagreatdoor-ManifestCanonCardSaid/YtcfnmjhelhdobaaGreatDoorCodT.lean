/-
  The library's functions that codec calls: Itoa, Atoi, Cut at a comma, Clone; and the package-level variables that they read. Conditions: the variables hold what the program's text lays (VarsAt); lengths.
-/
import Derived.Test.YtcfnmjhelhdobaaGreatDoorCodS
import Derived.Test.YtcfnmjhelhdobaaGreatDoorShelf
import Derived.Lib.AppendIntMem
import Derived.Lib.SmallJoins
import Derived.IntWalk
namespace Go.Proofs.YtcfnmjhelhdobaaGreatDoor
open Go.RowKit

/-- The package-level variables that codec's calls read hold what the program's text lays. -/
structure VarsAt (w : World) : Prop where
  tab : Lib.TabIs Tryz.prog w "internal/strconv.uint64pow10" .u64 Lib.pow10Tab
  syn : ∃ (tp : TypeId) (p : Value), w.var? Tryz.prog "strconv.ErrSyntax" = some #[.iface tp p]
  rng : ∃ (tp : TypeId) (p : Value), w.var? Tryz.prog "strconv.ErrRange" = some #[.iface tp p]
theorem gTab : Tryz.prog.globalNamed "internal/strconv.uint64pow10" = some 2 := by kernel_rfl
theorem gSyn : Tryz.prog.globalNamed "strconv.ErrSyntax" = some 3 := by kernel_rfl
theorem gRng : Tryz.prog.globalNamed "strconv.ErrRange" = some 4 := by kernel_rfl
theorem var_low {w : World} {n : String} {g : Nat} {cs : Array Value} (hg : Tryz.prog.globalNamed n = some g) (h : w.var? Tryz.prog n = some cs) : g < w.heap.size := by
  unfold World.var? at h
  simp only [hg, Option.bind_some] at h
  rcases Nat.lt_or_ge g w.heap.size with hl | hl
  · exact hl
  · rw [Array.getElem?_eq_none hl] at h; cases h
theorem var_block {w w' : World} {n : String} {g : Nat} {cs : Array Value} (hg : Tryz.prog.globalNamed n = some g) (h : w.var? Tryz.prog n = some cs) (hb : w'.heap[g]? = w.heap[g]?) : w'.var? Tryz.prog n = some cs := by
  unfold World.var? at h ⊢
  simp only [hg, Option.bind_some] at h ⊢
  rw [hb]
  exact h
theorem VarsAt.later {w w' : World} (h : VarsAt w) (hb : Below w.heap.size w w') : VarsAt w' := by
  obtain ⟨t, ⟨tp1, p1, s1⟩, ⟨tp2, p2, r1⟩⟩ := h
  exact ⟨var_block gTab t (hb.block _ (var_low gTab t)), ⟨tp1, p1, var_block gSyn s1 (hb.block _ (var_low gSyn s1))⟩, ⟨tp2, p2, var_block gRng r1 (hb.block _ (var_low gRng r1))⟩⟩

/-- strconv.Itoa. -/
theorem itoa_is {w : World} (hV : VarsAt w) (n : Int) (h0 : -9223372036854775808 ≤ n) (h1 : n ≤ 9223372036854775807) :
    Calls Tryz.prog 73 #[.int .i64 n] w fun e w' => e = .returned (.string (ofL (headT n))) ∧ Below w.heap.size w w' :=
  (Tryz.strconv_Itoa n h0 h1 w hV.tab).mono fun e w' ⟨he, k, os, hw⟩ => ⟨by rw [he, itoa_head]; rfl, by rw [hw]; exact Lib.below_grow _ w (Nat.le_refl _) k os⟩

/-- strconv.Atoi, of a numeral. -/
theorem atoi_yes (w : World) (s : ByteArray) (hs : s.size ≤ 1000000000) (v : Int) (h : Lib.atoiAll (bl s) = .ok v) :
    Calls Tryz.prog 98 #[.string s] w fun e w' => e = .returned (.tuple #[.int .i64 v, .nilIface]) ∧ Below w.heap.size w w' :=
  (Tryz.strconv_Atoi_ok s (by omega) v h w).mono fun e w' ⟨he, hw⟩ => ⟨he, by
    rcases hw with rfl | ⟨t, rfl⟩
    · exact Below.refl _ _
    · exact Lib.bytesWorld_below _ _ _⟩
/-- strconv.Atoi, of what is none: some number, and some error. -/
def AtoiNo (w : World) (e : Ending) (w' : World) : Prop := ∃ (v : Int) (tp : TypeId) (p : Value), e = .returned (.tuple #[.int .i64 v, .iface tp p]) ∧ Below w.heap.size w w'
theorem atoi_no {w : World} (hV : VarsAt w) (s : ByteArray) (hs : s.size ≤ 1000000000) (h : ∀ v, Lib.atoiAll (bl s) ≠ .ok v) :
    Calls Tryz.prog 98 #[.string s] w (AtoiNo w) := by
  obtain ⟨_, ⟨tp1, p1, s1⟩, ⟨tp2, p2, r1⟩⟩ := hV
  rcases hc : Lib.atoiAll (bl s) with v | _ | _
  · exact absurd hc (h v)
  · exact (Any.strconv_Atoi_syntax_var Tryz.laysC172 s (by omega) hc tp1 p1 w s1).mono fun e w' ⟨N, he, _, _, hb⟩ => ⟨_, _, _, he, hb⟩
  · exact (Tryz.strconv_Atoi_range_var s (by omega) hc tp2 p2 w r1).mono fun e w' ⟨N, he, _, _, hb⟩ => ⟨_, _, _, he, hb⟩

set_option maxHeartbeats 1000000 in
set_option maxRecDepth 100000 in
/-- strings.Clone. -/
theorem clone_is (w : World) (s : ByteArray) (hs : s.size ≤ 1000000000) :
    Calls Tryz.prog 78 #[.string s] w fun e w' => e = .returned (.string s) ∧ Below w.heap.size w w' := by
  go_enter Tryz.func78, Tryz.ntmps78
  go_wp2_with fail
  refine (Tryz.stringslite_Clone s w (by omega)).mono ?_
  rintro e w1 ⟨rfl, hb⟩
  have HB := Lib.hid hb
  clear hb
  go_wp2_with fail
  go_ret
  exact ⟨rfl, HB.out⟩

/-- strings.Cut at a comma, where there is none; where there is one. -/
theorem size_cut {s : ByteArray} {o : Nat} (h : Lib.indexByte (bl s) 44 = o) : o < s.size := by
  have := (cut_at_comma h).1
  rw [bl_len] at this
  exact this
end Go.Proofs.YtcfnmjhelhdobaaGreatDoor
