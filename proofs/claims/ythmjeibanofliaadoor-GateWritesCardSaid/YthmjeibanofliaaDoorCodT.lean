/-
  The library's functions that codec calls: Itoa, Atoi, Cut at a comma, Clone; and the package-level variables that they read. Conditions: the variables hold what the program's text lays (VarsAt); lengths.
-/
import Derived.Test.YthmjeibanofliaaDoorCodS
import Derived.Test.YthmjeibanofliaaDoorCodD
import Derived.Test.YthmjeibanofliaaDoorShelf
import Derived.Lib.AppendIntMem
import Derived.Lib.SmallJoins
import Derived.IntWalk
namespace Go.Proofs.YthmjeibanofliaaDoor
open Go.RowKit

/-- The package-level variables that codec's calls read hold what the program's text lays. -/
structure VarsAt (w : World) : Prop where
  tab : Lib.TabIs Tryd.prog w "internal/strconv.uint64pow10" .u64 Lib.pow10Tab
  syn : ∃ (tp : TypeId) (p : Value), w.var? Tryd.prog "strconv.ErrSyntax" = some #[.iface tp p]
  rng : ∃ (tp : TypeId) (p : Value), w.var? Tryd.prog "strconv.ErrRange" = some #[.iface tp p]
theorem gTab : Tryd.prog.globalNamed "internal/strconv.uint64pow10" = some 3 := by kernel_rfl
theorem gSyn : Tryd.prog.globalNamed "strconv.ErrSyntax" = some 1 := by kernel_rfl
theorem gRng : Tryd.prog.globalNamed "strconv.ErrRange" = some 2 := by kernel_rfl
theorem var_low {w : World} {n : String} {g : Nat} {cs : Array Value} (hg : Tryd.prog.globalNamed n = some g) (h : w.var? Tryd.prog n = some cs) : g < w.heap.size := by
  unfold World.var? at h
  simp only [hg, Option.bind_some] at h
  rcases Nat.lt_or_ge g w.heap.size with hl | hl
  · exact hl
  · rw [Array.getElem?_eq_none hl] at h; cases h
theorem var_block {w w' : World} {n : String} {g : Nat} {cs : Array Value} (hg : Tryd.prog.globalNamed n = some g) (h : w.var? Tryd.prog n = some cs) (hb : w'.heap[g]? = w.heap[g]?) : w'.var? Tryd.prog n = some cs := by
  unfold World.var? at h ⊢
  simp only [hg, Option.bind_some] at h ⊢
  rw [hb]
  exact h
theorem VarsAt.later {w w' : World} (h : VarsAt w) (hb : Below w.heap.size w w') : VarsAt w' := by
  obtain ⟨t, ⟨tp1, p1, s1⟩, ⟨tp2, p2, r1⟩⟩ := h
  exact ⟨var_block gTab t (hb.block _ (var_low gTab t)), ⟨tp1, p1, var_block gSyn s1 (hb.block _ (var_low gSyn s1))⟩, ⟨tp2, p2, var_block gRng r1 (hb.block _ (var_low gRng r1))⟩⟩

/-- strconv.Itoa. -/
theorem itoa_is {w : World} (hV : VarsAt w) (n : Int) (h0 : -9223372036854775808 ≤ n) (h1 : n ≤ 9223372036854775807) :
    Calls Tryd.prog 24 #[.int .i64 n] w fun e w' => e = .returned (.string (ofL (headT n))) ∧ Below w.heap.size w w' :=
  (Tryd.strconv_Itoa n h0 h1 w hV.tab).mono fun e w' ⟨he, k, os, hw⟩ => ⟨by rw [he, itoa_head]; rfl, by rw [hw]; exact Lib.below_grow _ w (Nat.le_refl _) k os⟩

/-- strconv.Atoi, of a numeral. -/
theorem atoi_yes (w : World) (s : ByteArray) (hs : s.size ≤ 1000000000) (v : Int) (h : Lib.atoiAll (bl s) = .ok v) :
    Calls Tryd.prog 26 #[.string s] w fun e w' => e = .returned (.tuple #[.int .i64 v, .nilIface]) ∧ Below w.heap.size w w' :=
  (Tryd.strconv_Atoi_ok s (by omega) v h w).mono fun e w' ⟨he, hw⟩ => ⟨he, by
    rcases hw with rfl | ⟨t, rfl⟩
    · exact Below.refl _ _
    · exact Lib.bytesWorld_below _ _ _⟩
/-- strconv.Atoi, of what is none: some number, and some error. -/
def AtoiNo (w : World) (e : Ending) (w' : World) : Prop := ∃ (v : Int) (tp : TypeId) (p : Value), e = .returned (.tuple #[.int .i64 v, .iface tp p]) ∧ Below w.heap.size w w'
theorem atoi_no {w : World} (hV : VarsAt w) (s : ByteArray) (hs : s.size ≤ 1000000000) (h : ∀ v, Lib.atoiAll (bl s) ≠ .ok v) :
    Calls Tryd.prog 26 #[.string s] w (AtoiNo w) := by
  obtain ⟨_, ⟨tp1, p1, s1⟩, ⟨tp2, p2, r1⟩⟩ := hV
  rcases hc : Lib.atoiAll (bl s) with v | _ | _
  · exact absurd hc (h v)
  · exact (Any.strconv_Atoi_syntax_var Tryd.laysC172 s (by omega) hc tp1 p1 w s1).mono fun e w' ⟨N, he, _, _, hb⟩ => ⟨_, _, _, he, hb⟩
  · exact (Tryd.strconv_Atoi_range_var s (by omega) hc tp2 p2 w r1).mono fun e w' ⟨N, he, _, _, hb⟩ => ⟨_, _, _, he, hb⟩

set_option maxHeartbeats 1000000 in
set_option maxRecDepth 100000 in
theorem index_is (w : World) (s : ByteArray) :
    Calls Tryd.prog 33 #[.string s, .string ⟨#[44]⟩] w fun e w' => e = .returned (.int .i64 (Lib.indexByte (bl s) 44)) ∧ w = w' := by
  have HI := Lib.hid (Tryd.stringslite_IndexByte s 44 w)
  by_cases h : s = ⟨#[44]⟩
  · subst h
    go_enter Tryd.func33, Tryd.ntmps33
    go_wp2_with fail
    go_ret
    exact ⟨rfl, rfl⟩
  · have hb : ((⟨#[44]⟩ : ByteArray).toList == s.toList) = false := by rw [ba_beq]; exact decide_eq_false (fun e => h e.symm)
    have hb2 : ([44] == s.toList) = false := by simpa using hb
    clear hb
    go_enter Tryd.func33, Tryd.ntmps33
    go_wp2_with fail
    refine HI.out.mono ?_
    rintro e w1 ⟨rfl, rfl⟩
    clear HI
    go_wp2_with fail
    go_ret
    exact ⟨rfl, rfl⟩

/-- strings.Cut at a comma, where there is none; where there is one. -/
theorem size_cut {s : ByteArray} {o : Nat} (h : Lib.indexByte (bl s) 44 = o) : o < s.size := by
  have := (cut_at_comma h).1
  rw [bl_len] at this
  exact this
set_option maxHeartbeats 1000000 in
set_option maxRecDepth 100000 in
theorem cut0_none (w : World) (s : ByteArray) (h : Lib.indexByte (bl s) 44 = -1) :
    Calls Tryd.prog 29 #[.string s, .string ⟨#[44]⟩] w fun e w' => e = .returned (.tuple #[.string s, .string .empty, .bool false]) ∧ Below w.heap.size w w' := by
  have HI := Lib.hid (index_is w s)
  rw [h] at HI
  clear h
  go_enter Tryd.func29, Tryd.ntmps29
  go_wp2_with fail
  refine HI.out.mono ?_
  rintro e w1 ⟨rfl, rfl⟩
  clear HI
  go_wp2_with fail
  go_ret3
  exact ⟨rfl, Below.refl _ _⟩
set_option maxHeartbeats 1000000 in
set_option maxRecDepth 100000 in
theorem cut0_some (w : World) (s : ByteArray) (hs : s.size ≤ 1000000000) (o : Nat) (h : Lib.indexByte (bl s) 44 = o) :
    Calls Tryd.prog 29 #[.string s, .string ⟨#[44]⟩] w fun e w' => e = .returned (.tuple #[.string (s.extract 0 o), .string (s.extract (o + 1) s.size), .bool true]) ∧ Below w.heap.size w w' := by
  have HI := Lib.hid (index_is w s)
  have ho := size_cut h
  rw [h] at HI
  clear h
  go_enter Tryd.func29, Tryd.ntmps29
  go_wp2_with fail
  refine HI.out.mono ?_
  rintro e w1 ⟨rfl, rfl⟩
  clear HI
  have h1 : IntKind.i64.wrap ((o : Int) + 1) = o + 1 := IntWalk.i64_in _ (by omega)
  have h2 : (0 : Int) ≤ (o : Int) + 1 := by omega
  have h3 : ((o : Int) + 1).toNat = o + 1 := by omega
  go_wp2_with fail
  go_quiet (fail)
  go_wp2_with fail
  go_ret3
  exact ⟨rfl, rfl, rfl, rfl, Nat.le_refl _, fun _ _ => rfl⟩
set_option maxHeartbeats 1000000 in
set_option maxRecDepth 100000 in
theorem cut_none (w : World) (s : ByteArray) (h : Lib.indexByte (bl s) 44 = -1) :
    Calls Tryd.prog 25 #[.string s, .string ⟨#[44]⟩] w fun e w' => e = .returned (.tuple #[.string s, .string .empty, .bool false]) ∧ Below w.heap.size w w' := by
  have HI := Lib.hid (cut0_none w s h)
  clear h
  go_enter Tryd.func25, Tryd.ntmps25
  go_wp2_with fail
  refine HI.out.mono ?_
  rintro e w1 ⟨rfl, hb⟩
  have HB := Lib.hid hb
  clear hb HI
  go_wp2_with fail
  go_ret3
  exact ⟨rfl, HB.out⟩
set_option maxHeartbeats 1000000 in
set_option maxRecDepth 100000 in
theorem cut_some (w : World) (s : ByteArray) (hs : s.size ≤ 1000000000) (o : Nat) (h : Lib.indexByte (bl s) 44 = o) :
    Calls Tryd.prog 25 #[.string s, .string ⟨#[44]⟩] w fun e w' => e = .returned (.tuple #[.string (s.extract 0 o), .string (s.extract (o + 1) s.size), .bool true]) ∧ Below w.heap.size w w' := by
  have HI := Lib.hid (cut0_some w s hs o h)
  clear h
  go_enter Tryd.func25, Tryd.ntmps25
  go_wp2_with fail
  refine HI.out.mono ?_
  rintro e w1 ⟨rfl, hb⟩
  have HB := Lib.hid hb
  clear hb HI
  go_wp2_with fail
  go_ret3
  exact ⟨rfl, HB.out⟩
end Go.Proofs.YthmjeibanofliaaDoor
