/-
  What the document's Reader.Int (package lockageref06) answers and leaves, of one that has met nothing wrong. No conditions but how the reader lies, and a text's length. What the document's Reader.Int of one that has met something wrong, and its Reader.Text (package lockageref06), answer and leave. No conditions but how the reader lies, and a text's length. The library's functions that codec calls: Itoa, Atoi, Cut at a comma, Clone; and the package-level variables that they read. Conditions: the variables hold what the program's text lays (VarsAt); lengths. Plain words of a text's lines: its words, each with its place, or the first byte that may not be. No program is named here.
-/
import Derived.Test.YtfjaibaidpbppaaGreatDoorCodX
import Derived.Test.YtfjaibaidpbppaaGreatDoorCodR
import Derived.Deep.WholeRow
import Derived.Test.YtfjaibaidpbppaaGreatDoorLexA
import Derived.Test.YtfjaibaidpbppaaGreatDoorShelf
import Derived.Lib.AppendIntMem
import Derived.Lib.SmallJoins
import Derived.IntWalk
import Derived.Test.YtfjaibaidpbppaaGreatDoorSecA
namespace Go.Proofs.YtfjaibaidpbppaaGreatDoor
open Go.RowKit

/-- Only block R may have turned; new ones may be there. -/
structure Only1 (R : Nat) (w w' : World) : Prop where
  os : w'.os = w.os
  tape : w'.tape = w.tape
  output : w'.output = w.output
  size : w.heap.size ≤ w'.heap.size
  block : ∀ i, i < w.heap.size → i ≠ R → w'.heap[i]? = w.heap[i]?
theorem Only1.of_below {R : Nat} {w w' : World} (h : Below w.heap.size w w') : Only1 R w w' := ⟨h.os, h.tape, h.output, h.size, fun i hi _ => h.block i hi⟩
theorem Only1.trans {R : Nat} {a b c : World} (h : Only1 R a b) (k : Only1 R b c) : Only1 R a c :=
  ⟨k.os.trans h.os, k.tape.trans h.tape, k.output.trans h.output, Nat.le_trans h.size k.size, fun i hi hn => (k.block i (Nat.lt_of_lt_of_le hi h.size) hn).trans (h.block i hi hn)⟩
theorem Only1.set {R i : Nat} {w : World} (v : Value) : Only1 R w (w.setCell ⟨R, i, none⟩ v) := by
  have hs : (w.setCell ⟨R, i, none⟩ v).heap.size = w.heap.size := by simp [World.setCell]
  exact ⟨rfl, rfl, rfl, by rw [hs]; exact Nat.le_refl _, fun j _ hn => Below.heap_setCell w ⟨R, i, none⟩ v j (by simpa using hn)⟩
theorem row_set {w : World} {g : Nat} {cs : Array Value} {t : TypeId} {m : Nat × Nat} (hg : w.heap[g]? = some (.cells cs t m)) {i : Nat} {v : Value} : (w.setCell ⟨g, i, none⟩ v).heap[g]? = some (.cells (cs.setIfInBounds i v) t m) := by
  rw [setCell_eq_setRow w g i cs t m v hg]
  exact setRow_heap _ _ _ _ _ _ hg
/-- What is answered, and left. -/
def rdN (r : Option (Int × List UInt8)) : Int := match r with | some (n, _) => n | none => 0
def rdS (S : ByteArray) (r : Option (Int × List UInt8)) : ByteArray := match r with | some (_, x) => ofL x | none => S
theorem some_comma {S : ByteArray} {lo hi m : Int} {rest : List UInt8} (h : Takes (bl S) lo hi (some (m, rest))) : ∃ j, j ≤ 20 ∧ j < S.size ∧ byI S j = 44 := by
  rcases h with ⟨n, x, a1, a2, a3, _, _, e⟩ | ⟨_, e⟩
  · have hl := headT_len a1 a2
    have hk : (bl S)[(headT n).length]? = some 44 := by
      rw [a3, numT_head, List.append_assoc, List.getElem?_append_right (Nat.le_refl _), Nat.sub_self]
      rfl
    have hlt := (List.getElem?_eq_some_iff.1 hk).1
    rw [bl_len] at hlt
    obtain ⟨c, h1, h2⟩ := byI_get hlt
    rw [hk] at h1
    obtain rfl := Option.some.inj h1
    exact ⟨_, hl.2, hlt, h2⟩
  · cases e
theorem byI_comma {S : ByteArray} {k : Nat} (hk : k < S.size) (h : byI S k = 44) : (bl S)[k]? = some 44 := by
  obtain ⟨c, h1, h2⟩ := byI_get hk
  rw [h1, byte_is (c := c) (k := 44) (by omega) (by omega)]
  rfl

section
variable {w : World} {R : Nat} {S : ByteArray}
end
end Go.Proofs.YtfjaibaidpbppaaGreatDoor

namespace Go.Proofs.YtfjaibaidpbppaaGreatDoor
open Go.RowKit

section
variable {w : World} {R : Nat} {S : ByteArray}
/-- What a Text answers, what it leaves, and whether something is wrong then. -/
def rtT (r : Option (Int × List UInt8)) : ByteArray := match r with | some (n, x) => if (x.length : Int) < n then .empty else ofL (x.take n.toNat) | none => .empty
def rtS (S : ByteArray) (r : Option (Int × List UInt8)) : ByteArray := match r with | some (n, x) => if (x.length : Int) < n then ofL x else ofL (x.drop n.toNat) | none => S
def rtB (r : Option (Int × List UInt8)) : Bool := match r with | some (n, x) => decide ((x.length : Int) < n) | none => true
end
end Go.Proofs.YtfjaibaidpbppaaGreatDoor

namespace Go.Proofs.YtfjaibaidpbppaaGreatDoor
open Go.RowKit

/-- The package-level variables that codec's calls read hold what the program's text lays. -/
structure VarsAt (w : World) : Prop where
  tab : Lib.TabIs Tryz.prog w "internal/strconv.uint64pow10" .u64 Lib.pow10Tab
  syn : ∃ (tp : TypeId) (p : Value), w.var? Tryz.prog "strconv.ErrSyntax" = some #[.iface tp p]
  rng : ∃ (tp : TypeId) (p : Value), w.var? Tryz.prog "strconv.ErrRange" = some #[.iface tp p]
theorem gTab : Tryz.prog.globalNamed "internal/strconv.uint64pow10" = some 3 := by kernel_rfl
theorem gSyn : Tryz.prog.globalNamed "strconv.ErrSyntax" = some 1 := by kernel_rfl
theorem gRng : Tryz.prog.globalNamed "strconv.ErrRange" = some 2 := by kernel_rfl
theorem var_low {w : World} {n : String} {g : Nat} {cs : Array Value} (hg : Tryz.prog.globalNamed n = some g) (h : w.var? Tryz.prog n = some cs) : g < w.heap.size := by
  unfold World.var? at h
  simp only [hg, Option.bind_some] at h
  rcases Nat.lt_or_ge g w.heap.size with hl | hl
  · exact hl
  · rw [Array.getElem?_eq_none hl] at h; cases h
theorem var_block {w w' : World} {n : String} {g : Nat} {cs : Array Value} (hg : Tryz.prog.globalNamed n = some g) (h : w.var? Tryz.prog n = some cs) (hb : w'.heap[g]? = w.heap[g]?) : w'.var? Tryz.prog n = some cs := by
  unfold World.var? at h ⊢
  simp only [hg, Option.bind_some] at h ⊢
  rw [hb]
  exact h
theorem VarsAt.later {w w' : World} (h : VarsAt w) (hb : Below w.heap.size w w') : VarsAt w' := by
  obtain ⟨t, ⟨tp1, p1, s1⟩, ⟨tp2, p2, r1⟩⟩ := h
  exact ⟨var_block gTab t (hb.block _ (var_low gTab t)), ⟨tp1, p1, var_block gSyn s1 (hb.block _ (var_low gSyn s1))⟩, ⟨tp2, p2, var_block gRng r1 (hb.block _ (var_low gRng r1))⟩⟩

/-- strconv.Itoa. -/
theorem itoa_is {w : World} (hV : VarsAt w) (n : Int) (h0 : -9223372036854775808 ≤ n) (h1 : n ≤ 9223372036854775807) :
    Calls Tryz.prog 80 #[.int .i64 n] w fun e w' => e = .returned (.string (ofL (headT n))) ∧ Below w.heap.size w w' :=
  (Tryz.strconv_Itoa n h0 h1 w hV.tab).mono fun e w' ⟨he, k, os, hw⟩ => ⟨by rw [he, itoa_head]; rfl, by rw [hw]; exact Lib.below_grow _ w (Nat.le_refl _) k os⟩

/-- strconv.Atoi, of a numeral. -/
theorem atoi_yes (w : World) (s : ByteArray) (hs : s.size ≤ 1000000000) (v : Int) (h : Lib.atoiAll (bl s) = .ok v) :
    Calls Tryz.prog 79 #[.string s] w fun e w' => e = .returned (.tuple #[.int .i64 v, .nilIface]) ∧ Below w.heap.size w w' :=
  (Tryz.strconv_Atoi_ok s (by omega) v h w).mono fun e w' ⟨he, hw⟩ => ⟨he, by
    rcases hw with rfl | ⟨t, rfl⟩
    · exact Below.refl _ _
    · exact Lib.bytesWorld_below _ _ _⟩
/-- strconv.Atoi, of what is none: some number, and some error. -/
def AtoiNo (w : World) (e : Ending) (w' : World) : Prop := ∃ (v : Int) (tp : TypeId) (p : Value), e = .returned (.tuple #[.int .i64 v, .iface tp p]) ∧ Below w.heap.size w w'
theorem atoi_no {w : World} (hV : VarsAt w) (s : ByteArray) (hs : s.size ≤ 1000000000) (h : ∀ v, Lib.atoiAll (bl s) ≠ .ok v) :
    Calls Tryz.prog 79 #[.string s] w (AtoiNo w) := by
  obtain ⟨_, ⟨tp1, p1, s1⟩, ⟨tp2, p2, r1⟩⟩ := hV
  rcases hc : Lib.atoiAll (bl s) with v | _ | _
  · exact absurd hc (h v)
  · exact (Any.strconv_Atoi_syntax_var Tryz.laysC172 s (by omega) hc tp1 p1 w s1).mono fun e w' ⟨N, he, _, _, hb⟩ => ⟨_, _, _, he, hb⟩
  · exact (Tryz.strconv_Atoi_range_var s (by omega) hc tp2 p2 w r1).mono fun e w' ⟨N, he, _, _, hb⟩ => ⟨_, _, _, he, hb⟩

set_option maxHeartbeats 1000000 in
set_option maxRecDepth 100000 in
/-- strings.Clone. -/
theorem clone_is (w : World) (s : ByteArray) (hs : s.size ≤ 1000000000) :
    Calls Tryz.prog 77 #[.string s] w fun e w' => e = .returned (.string s) ∧ Below w.heap.size w w' := by
  go_enter Tryz.func77, Tryz.ntmps77
  go_wp2_with fail
  refine (Tryz.stringslite_Clone s w (by omega)).mono ?_
  rintro e w1 ⟨rfl, hb⟩
  have HB := Lib.hid hb
  clear hb
  go_wp2_with fail
  go_ret
  exact ⟨rfl, HB.out⟩

set_option maxHeartbeats 1000000 in
set_option maxRecDepth 100000 in
theorem index_is (w : World) (s : ByteArray) :
    Calls Tryz.prog 109 #[.string s, .string ⟨#[44]⟩] w fun e w' => e = .returned (.int .i64 (Lib.indexByte (bl s) 44)) ∧ w = w' := by
  have HI := Lib.hid (Tryz.stringslite_IndexByte s 44 w)
  by_cases h : s = ⟨#[44]⟩
  · subst h
    go_enter Tryz.func109, Tryz.ntmps109
    go_wp2_with fail
    go_ret
    exact ⟨rfl, rfl⟩
  · have hb : ((⟨#[44]⟩ : ByteArray).toList == s.toList) = false := by rw [ba_beq]; exact decide_eq_false (fun e => h e.symm)
    have hb2 : ([44] == s.toList) = false := by simpa using hb
    clear hb
    go_enter Tryz.func109, Tryz.ntmps109
    go_wp2_with fail
    refine HI.out.mono ?_
    rintro e w1 ⟨rfl, rfl⟩
    clear HI
    go_wp2_with fail
    go_ret
    exact ⟨rfl, rfl⟩

/-- strings.Cut at a comma, where there is none; where there is one. -/
theorem size_cut {s : ByteArray} {o : Nat} (h : Lib.indexByte (bl s) 44 = o) : o < s.size := by
  have := (cut_at_comma h).1
  rw [bl_len] at this
  exact this
set_option maxHeartbeats 1000000 in
set_option maxRecDepth 100000 in
theorem cut0_none (w : World) (s : ByteArray) (h : Lib.indexByte (bl s) 44 = -1) :
    Calls Tryz.prog 94 #[.string s, .string ⟨#[44]⟩] w fun e w' => e = .returned (.tuple #[.string s, .string .empty, .bool false]) ∧ Below w.heap.size w w' := by
  have HI := Lib.hid (index_is w s)
  rw [h] at HI
  clear h
  go_enter Tryz.func94, Tryz.ntmps94
  go_wp2_with fail
  refine HI.out.mono ?_
  rintro e w1 ⟨rfl, rfl⟩
  clear HI
  go_wp2_with fail
  go_ret3
  exact ⟨rfl, Below.refl _ _⟩
set_option maxHeartbeats 1000000 in
set_option maxRecDepth 100000 in
theorem cut0_some (w : World) (s : ByteArray) (hs : s.size ≤ 1000000000) (o : Nat) (h : Lib.indexByte (bl s) 44 = o) :
    Calls Tryz.prog 94 #[.string s, .string ⟨#[44]⟩] w fun e w' => e = .returned (.tuple #[.string (s.extract 0 o), .string (s.extract (o + 1) s.size), .bool true]) ∧ Below w.heap.size w w' := by
  have HI := Lib.hid (index_is w s)
  have ho := size_cut h
  rw [h] at HI
  clear h
  go_enter Tryz.func94, Tryz.ntmps94
  go_wp2_with fail
  refine HI.out.mono ?_
  rintro e w1 ⟨rfl, rfl⟩
  clear HI
  have h1 : IntKind.i64.wrap ((o : Int) + 1) = o + 1 := IntWalk.i64_in _ (by omega)
  have h2 : (0 : Int) ≤ (o : Int) + 1 := by omega
  have h3 : ((o : Int) + 1).toNat = o + 1 := by omega
  go_wp2_with fail
  go_quiet (fail)
  go_wp2_with fail
  go_ret3
  exact ⟨rfl, rfl, rfl, rfl, Nat.le_refl _, fun _ _ => rfl⟩
set_option maxHeartbeats 1000000 in
set_option maxRecDepth 100000 in
theorem cut_none (w : World) (s : ByteArray) (h : Lib.indexByte (bl s) 44 = -1) :
    Calls Tryz.prog 78 #[.string s, .string ⟨#[44]⟩] w fun e w' => e = .returned (.tuple #[.string s, .string .empty, .bool false]) ∧ Below w.heap.size w w' := by
  have HI := Lib.hid (cut0_none w s h)
  clear h
  go_enter Tryz.func78, Tryz.ntmps78
  go_wp2_with fail
  refine HI.out.mono ?_
  rintro e w1 ⟨rfl, hb⟩
  have HB := Lib.hid hb
  clear hb HI
  go_wp2_with fail
  go_ret3
  exact ⟨rfl, HB.out⟩
set_option maxHeartbeats 1000000 in
set_option maxRecDepth 100000 in
theorem cut_some (w : World) (s : ByteArray) (hs : s.size ≤ 1000000000) (o : Nat) (h : Lib.indexByte (bl s) 44 = o) :
    Calls Tryz.prog 78 #[.string s, .string ⟨#[44]⟩] w fun e w' => e = .returned (.tuple #[.string (s.extract 0 o), .string (s.extract (o + 1) s.size), .bool true]) ∧ Below w.heap.size w w' := by
  have HI := Lib.hid (cut0_some w s hs o h)
  clear h
  go_enter Tryz.func78, Tryz.ntmps78
  go_wp2_with fail
  refine HI.out.mono ?_
  rintro e w1 ⟨rfl, hb⟩
  have HB := Lib.hid hb
  clear hb HI
  go_wp2_with fail
  go_ret3
  exact ⟨rfl, HB.out⟩
end Go.Proofs.YtfjaibaidpbppaaGreatDoor

namespace Go.Proofs.YtfjaibaidpbppaaGreatDoor

/-- A text's byte, as a number. -/
def byL (s : ByteArray) (i : Nat) : Int := (((bl s).getD i 0).toNat : Int)
theorem byL_at (s : ByteArray) (i : Nat) (h : i < s.size) : ((s[i]'h).toNat : Int) = byL s i := by
  have h2 : i < (bl s).length := by rw [bl_len]; exact h
  unfold byL
  rw [List.getD_eq_getElem?_getD, List.getElem?_eq_getElem h2]
  rfl
/-- A word, and its place. -/
structure Wd where
  t : ByteArray
  p : Nat
/-- What is held: the lines that are done, the line, the word. -/
structure LxS where
  out : List (List Wd)
  line : List Wd
  word : ByteArray
  at_ : Nat
/-- What a text has: a fault (its number, its place), or lines. -/
inductive LxR where
  | bad (e p : Nat)
  | good (l : List (List Wd))
def isW (c : Nat) : Bool := decide (32 < c) && decide (c < 127)
/-- The line, its last word done. -/
def LxS.done (st : LxS) : List Wd := if st.word = .empty then st.line else st.line ++ [⟨st.word, st.at_⟩]
/-- Behind a byte of a word; a space; a line's end. -/
def LxS.push (st : LxS) (b : ByteArray) (i : Nat) : LxS := { st with word := st.word ++ b, at_ := if st.word = .empty then i else st.at_ }
def LxS.space (st : LxS) : LxS := { out := st.out, line := st.done, word := .empty, at_ := if st.word = .empty then st.at_ else 0 }
def LxS.feed (st : LxS) : LxS := { out := if st.done = [] then st.out else st.out ++ [st.done], line := [], word := .empty, at_ := if st.word = .empty then st.at_ else 0 }
/-- From place k on. -/
def lexGo (s : ByteArray) : Nat → Nat → LxS → LxR
  | 0, _, st => .good st.feed.out
  | f + 1, k, st =>
    if isW (byL s k).toNat then lexGo s f (k + 1) (st.push (s.extract k (k + 1)) k)
    else if byL s k = 10 then lexGo s f (k + 1) st.feed
    else if byL s k = 32 then lexGo s f (k + 1) st.space
    else .bad 3 k
def lx0 : LxS := ⟨[], [], .empty, 0⟩
/-- What any text has. -/
def lexP (s : ByteArray) : LxR := if 600 < s.size then .bad 16 600 else lexGo s s.size 0 lx0
theorem lexGo_end (s : ByteArray) (k : Nat) (st : LxS) : lexGo s 0 k st = .good st.feed.out := rfl
theorem lexGo_word {s : ByteArray} {f k : Nat} {st : LxS} (h : 32 < byL s k) (h2 : byL s k < 127) : lexGo s (f + 1) k st = lexGo s f (k + 1) (st.push (s.extract k (k + 1)) k) := by
  have : isW (byL s k).toNat = true := by unfold isW; simp; omega
  rw [lexGo, if_pos this]
theorem not_isW {c : Int} (h : ¬ (32 < c ∧ c < 127)) : ¬ isW c.toNat = true := by
  unfold isW
  simp only [Bool.and_eq_true, decide_eq_true_eq]
  omega
theorem byL_nat (s : ByteArray) (k : Nat) : 0 ≤ byL s k := Int.natCast_nonneg _
theorem lexGo_feed {s : ByteArray} {f k : Nat} {st : LxS} (h : byL s k = 10) : lexGo s (f + 1) k st = lexGo s f (k + 1) st.feed := by
  rw [lexGo, if_neg (not_isW (by omega)), if_pos h]
theorem lexGo_space {s : ByteArray} {f k : Nat} {st : LxS} (h : byL s k = 32) : lexGo s (f + 1) k st = lexGo s f (k + 1) st.space := by
  rw [lexGo, if_neg (not_isW (by omega)), if_neg (by omega), if_pos h]
theorem lexGo_bad {s : ByteArray} {f k : Nat} {st : LxS} (h : ¬ (32 < byL s k ∧ byL s k < 127)) (h1 : byL s k ≠ 10) (h2 : byL s k ≠ 32) : lexGo s (f + 1) k st = .bad 3 k := by
  rw [lexGo, if_neg (not_isW h), if_neg h1, if_neg h2]
section
variable {so : List (List Wd)} {sl : List Wd} {sw : ByteArray} {sa : Nat}
theorem push_empty (b : ByteArray) (i : Nat) : (⟨so, sl, .empty, sa⟩ : LxS).push b i = ⟨so, sl, b, i⟩ := by
  unfold LxS.push
  simp
theorem push_more (h : ¬ sw = .empty) (b : ByteArray) (i : Nat) : (⟨so, sl, sw, sa⟩ : LxS).push b i = ⟨so, sl, sw ++ b, sa⟩ := by
  unfold LxS.push
  simp only [if_neg h]
theorem space_empty : (⟨so, sl, .empty, sa⟩ : LxS).space = ⟨so, sl, .empty, sa⟩ := by
  unfold LxS.space LxS.done
  simp
theorem space_more (h : ¬ sw = .empty) : (⟨so, sl, sw, sa⟩ : LxS).space = ⟨so, sl ++ [⟨sw, sa⟩], .empty, 0⟩ := by
  unfold LxS.space LxS.done
  simp only [if_neg h]
theorem feed_none : (⟨so, [], .empty, sa⟩ : LxS).feed = ⟨so, [], .empty, sa⟩ := by
  unfold LxS.feed LxS.done
  simp
theorem feed_line (h : ¬ sl = []) : (⟨so, sl, .empty, sa⟩ : LxS).feed = ⟨so ++ [sl], [], .empty, sa⟩ := by
  unfold LxS.feed LxS.done
  simp [h]
theorem feed_more (h : ¬ sw = .empty) : (⟨so, sl, sw, sa⟩ : LxS).feed = ⟨so ++ [sl ++ [⟨sw, sa⟩]], [], .empty, 0⟩ := by
  unfold LxS.feed LxS.done
  simp only [if_neg h]
  rw [if_neg (by simp)]
end
end Go.Proofs.YtfjaibaidpbppaaGreatDoor
