/-
  From what the rows list of the package-level variables to what the walks ask of them; a world in which they hold it. The program's manifest.Right, of pipelines that may be. No further conditions. The program's Ready and Order, of pipelines that may be. No further conditions. The program's Long, of a pipeline that may be. No further conditions.
-/
import Derived.Test.YtfjaibaidpbppaaGreatDoorRows
import Derived.Test.YtfjaibaidpbppaaGreatDoorLexP
import Derived.LaidLaws
import Derived.Lib.LaidTab
import Derived.Stop.LaidErr
import Derived.Deep.DeepLaidRun
import Derived.ProofKit
import Derived.Test.YtfjaibaidpbppaaGreatDoorOrdM
import Derived.Test.YtfjaibaidpbppaaGreatDoorChain
import Derived.Test.YtfjaibaidpbppaaGreatDoorManO
import Derived.Test.YtfjaibaidpbppaaGreatDoorFlat
import Derived.Test.YtfjaibaidpbppaaGreatDoorOrdX
import Derived.Deep.DeepCutAuto
import Derived.Deep.OwnRows
import Derived.WalkKit
import Derived.BigRegion
namespace Go.Proofs.YtfjaibaidpbppaaGreatDoor
open Go.RowKit

/-- What the rows list. -/
def laid5 : List (String × DataW Unit) := [("math/bits.deBruijn32tab", Rows.laid_math_bits_deBruijn32tab), ("math/bits.deBruijn64tab", Rows.laid_math_bits_deBruijn64tab), ("internal/strconv.uint64pow10", Rows.laid_internal_strconv_uint64pow10), ("strconv.ErrRange", Rows.laid_strconv_ErrRange), ("strconv.ErrSyntax", Rows.laid_strconv_ErrSyntax)]

theorem star_err : "*" ++ "errors.errorString" = "*errors.errorString" := by decide
theorem row_err (u : TypeId) (h : Tryz.prog.typeName? 3 u = some "*errors.errorString") : u = 211 :=
  typeName_ptr_named (nm := "errors.errorString") (by rw [star_err]; kernel_rfl) (by kernel_rfl) (by decide) u (by rw [star_err]; exact h)
theorem tab_data : (Rows.laid_internal_strconv_uint64pow10 : DataW Unit) = Lib.tabData .u64 Lib.pow10Tab := by kernel_rfl
theorem vars_of_laid {W : World} (h : laidMet Tryz.prog laid5 W) : VarsAt W := by
  have h3 := h.tail.tail
  rw [tab_data] at h3
  refine ⟨Lib.tabIs_of_head gTab (t := 215) (n := 20) (e := 173) (by kernel_rfl) (by kernel_rfl) (by kernel_rfl) (by kernel_rfl) (by kernel_rfl) h3, ?_, ?_⟩
  · obtain ⟨a, s, hv, -, -, -⟩ := laid_sentinel h.tail.tail.tail.tail gSyn (ti := 127) (by kernel_rfl) Tryz.underlying127 row_err Tryz.underlying211 Tryz.underlying213 rfl rfl Tryz.underlying9 (by kernel_rfl) (by kernel_rfl)
    exact ⟨_, _, hv⟩
  · obtain ⟨a, s, hv, -, -, -⟩ := laid_sentinel h.tail.tail.tail gRng (ti := 127) (by kernel_rfl) Tryz.underlying127 row_err Tryz.underlying211 Tryz.underlying213 rfl rfl Tryz.underlying9 (by kernel_rfl) (by kernel_rfl)
    exact ⟨_, _, hv⟩

/-- Two tables of math/bits, as the rows list them. -/
def tab32 : List Int := [0, 1, 28, 2, 29, 14, 24, 3, 30, 22, 20, 15, 25, 17, 4, 8, 31, 27, 13, 23, 21, 19, 16, 7, 26, 12, 18, 6, 11, 5, 10, 9]
def tab64 : List Int := [0, 1, 56, 2, 57, 49, 28, 3, 61, 58, 42, 50, 38, 29, 17, 4, 62, 47, 59, 36, 45, 43, 51, 22, 53, 39, 33, 30, 24, 18, 12, 5, 63, 55, 48, 27, 60, 41, 37, 16, 46, 35, 44, 21, 52, 32, 23, 11, 54, 26, 40, 15, 34, 20, 31, 10, 25, 14, 19, 9, 13, 8, 7, 6]
abbrev synB : ByteArray := ⟨#[105, 110, 118, 97, 108, 105, 100, 32, 115, 121, 110, 116, 97, 120]⟩
abbrev rngB : ByteArray := ⟨#[118, 97, 108, 117, 101, 32, 111, 117, 116, 32, 111, 102, 32, 114, 97, 110, 103, 101]⟩
/-- The settled world, the five variables as their initialisers lay them. -/
noncomputable def laidWorld (os : Os) : World :=
  let N := (World.settled Tryz.prog os).heap.size
  let w0 := World.holding Tryz.prog os ⟨#[.cells #[.string synB] 213, .cells #[.string rngB] 213], #[], []⟩
  let put (h : Array Obj) (g : Nat) (cs : Array Value) : Array Obj := h.modify g fun
    | .cells _ t frozen => .cells cs t frozen
    | o => o
  { w0 with heap := put (put (put (put (put w0.heap 1 #[.iface 211 (.pointer (some ⟨N, 0, none⟩))]) 2 #[.iface 211 (.pointer (some ⟨N + 1, 0, none⟩))]) 3 (Lib.pow10Tab.map (Value.int .u64)).toArray) 4 (tab32.map (Value.int .u8)).toArray) 5 (tab64.map (Value.int .u8)).toArray }
set_option maxRecDepth 1000000 in
theorem laid_met (os : Os) (args : Array Value) : laidMet Tryz.prog laid5 ((laidWorld os).forCall (fun _ _ => 0) ⟨#[], args, []⟩).memory :=
  laidMet_of_run3 8 (by kernel_rfl) (by kernel_rfl) (by kernel_rfl)
end Go.Proofs.YtfjaibaidpbppaaGreatDoor

namespace Go.Proofs.YtfjaibaidpbppaaGreatDoor
open Go.RowKit

section
variable {w : World} {A : Option Addr} {c : Nat}
theorem not_ahead {l : List Nat} (h : l.Nodup) {k x : Nat} (hx : l[k]? = some x) : (((l.map Int.ofNat).take k).contains (x : Int)) = false := by
  rw [Bool.eq_false_iff]
  intro hc
  rw [List.contains_iff_mem, ← List.map_take, List.mem_map] at hc
  obtain ⟨y, hy, e⟩ := hc
  obtain rfl : y = x := by have : (y : Int) = (x : Int) := e; omega
  obtain ⟨j, hj⟩ := List.getElem?_of_mem hy
  have hjk : j < k := by
    have := (List.getElem?_eq_some_iff.1 hj).1
    rw [List.length_take] at this
    omega
  rw [List.getElem?_take_of_lt hjk] at hj
  exact absurd ((List.getElem?_inj (List.getElem?_eq_some_iff.1 hj).1 h).1 (hj.trans hx.symm)) (by omega)
theorem contains_is {b o : Nat} {l : List Nat} (hc : ∀ j, j < (l.map Int.ofNat).length → w.cell? ⟨b, o + j, none⟩ = some (.int .i64 ((l.map Int.ofNat).getD j 0))) (h : l.Nodup) (hl : l.length ≤ 1000000) {k x : Nat} (hx : l[k]? = some x) :
    Calls Tryz.prog 81 #[.slice (some ⟨b, o, none⟩) k c, .int .i64 x] w fun e w' => e = .returned (.bool false) ∧ w = w' := by
  have hk := (List.getElem?_eq_some_iff.1 hx).1
  refine (Tryz.slices_Contains_int b o k c (l.map Int.ofNat) x w (by rw [List.length_map]; omega) (by omega) hc).mono ?_
  rintro e w1 ⟨rfl, rfl⟩
  exact ⟨by rw [not_ahead h hx], rfl⟩
set_option maxHeartbeats 1000000 in
set_option maxRecDepth 100000 in
theorem areplaces_is {l : List Nat} {n : Nat} (hA : NatsAt w A l) (h1 : ∀ j ∈ l, j < n) (h2 : l.Nodup) (hn : n ≤ 8) (hl : l.length ≤ 1000000) (hcp : l.length ≤ c) :
    Calls Tryz.prog 101 #[.slice A l.length c, .int .i64 n] w fun e w' => e = .returned (.bool true) ∧ w = w' := by
  have HA := Lib.hid hA
  have H1 := Lib.hid h1
  have H2 := Lib.hid h2
  clear hA h1 h2
  go_enter Tryz.func101, Tryz.ntmps101
  go_wp2_with fail
  go_loopw [9] (fun i wr => ∃ k : Nat, i = .int .i64 k ∧ k ≤ l.length ∧ w = wr) (fun i _ => l.length - (intOf i).toNat)
  case atStart => exact ⟨0, rfl, Nat.zero_le _, rfl⟩
  case round =>
    obtain ⟨k, rfl, hk, rfl⟩ := hrel
    by_cases hlt : k < l.length
    · obtain ⟨x, hx⟩ : ∃ x, l[k]? = some x := ⟨_, List.getElem?_eq_getElem hlt⟩
      obtain ⟨b, o, rfl, hc⟩ := HA.out.flat (by omega)
      have z := hc k (by rw [List.length_map]; exact hlt)
      rw [List.getD_eq_getElem?_getD, List.getElem?_map, hx] at z
      have z : w.cell? ⟨b, o + k, none⟩ = some (.int .i64 (x : Int)) := z
      have z1 : w.cell? ((⟨b, o, none⟩ : Addr).add k) = some (.int .i64 (x : Int)) := cell_of (p := ⟨b, o + k, none⟩) (q := (⟨b, o, none⟩ : Addr).add k) (add_block (⟨b, o, none⟩ : Addr) k).symm (add_off (⟨b, o, none⟩ : Addr) k).symm (by unfold Addr.add; split <;> rfl) z
      have HC := Lib.hid (contains_is (c := c) hc H2.out hl hx)
      have hxn := H1.out x (List.mem_of_getElem? hx)
      have HW := Lib.hid (within_is w x 0 ((n : Int) - 1) true (decide_eq_true ⟨by omega, by omega⟩).symm)
      have hk0 : (0 : Int) ≤ (k : Int) := by omega
      have hkl : (k : Int) < (l.length : Int) := by omega
      have hkl2 : (k : Int) ≤ (c : Int) := by omega
      clear hx hc
      go_wp2_with fail
      refine HW.out.mono ?_
      rintro e w1 ⟨rfl, rfl⟩
      go_wp2_with fail
      refine HC.out.mono ?_
      rintro e w1 ⟨rfl, rfl⟩
      go_wp2_with fail
      go_roundw
      case rel => exact ⟨k + 1, by go_num, by omega, by trivial⟩
      case measure => simp [intOf]; omega
    · have hke : k = l.length := by omega
      subst hke
      go_wp2_with fail
      go_ret
      exact ⟨rfl, rfl⟩
set_option maxHeartbeats 2000000 in
set_option maxRecDepth 100000 in
theorem maybe_is {t : TkP} {n : Nat} (hA : NatsAt w A t.after) (hcp : t.after.length ≤ c) (ht : TaskOk n t) (hn : n ≤ 8) :
    Calls Tryz.prog 85 #[.agg (tkA t A c), .int .i64 n] w fun e w' => e = .returned (.bool true) ∧ Below w.heap.size w w' := by
  have hl : t.after.length ≤ 1000000 := by have := few_below _ _ ht.aft.1 ht.aft.2; omega
  have hb0 := (Below.refl w.heap.size w).alloc (Nat.le_refl _) (.cells (tkA t A c) 65)
  have HB0 := Lib.hid hb0
  have HX := Lib.hid (made_at w (.cells (tkA t A c) 65))
  have HAP := Lib.hid (fun (x : World) (hx : Below w.heap.size w x) => areplaces_is (c := c) (hA.later hx) ht.aft.1 ht.aft.2 hn hl hcp)
  have HIN := Lib.hid (fun x : World => show Calls Tryz.prog 83 #[.string t.name] x (fun e w' => e = .returned (.bool true) ∧ Below x.heap.size x w') by
    have h := isnameM_is t.name x
    rw [name_yes ht.name] at h
    exact h)
  have HT1 := Lib.hid (fun x : World => within_is x t.time 1 100 true (decide_eq_true ht.time).symm)
  have HR1 := Lib.hid (fun x : World => within_is x t.retry 0 5 true (decide_eq_true ht.retry).symm)
  have HOK := Lib.hid ht
  clear hb0 hA ht hn hl hcp
  go_enter Tryz.func85, Tryz.ntmps85
  go_upto_region 1 with fail
  generalize hW0 : (w.alloc (.cells (tkA t A c) 65)) = W0 at *
  clear hW0
  have x0 := cellH HX.out 0
  have x1 := cellH HX.out 1
  have x3 := cellH HX.out 3
  simp at x0 x1 x3
  go_wp2_with fail
  refine (HIN.out _).mono ?_
  rintro e w1 ⟨rfl, hb1⟩
  have HB1 := Lib.hid (below_step HB0.out hb1)
  have HX1 := Lib.hid (later_at hb1 HX.out)
  clear hb1 x0 x1 x3
  have x1 := cellH HX1.out 1
  have x3 := cellH HX1.out 3
  simp at x1 x3
  go_wp2_with fail
  refine (HAP.out _ HB1.out).mono ?_
  rintro e w2 ⟨rfl, rfl⟩
  go_wp2_with fail
  refine (HT1.out _).mono ?_
  rintro e w2 ⟨rfl, rfl⟩
  clear x1 x3
  have x0 := cellH HX1.out 0
  have x1 := cellH HX1.out 1
  have x2 := cellH HX1.out 2
  have x3 := cellH HX1.out 3
  have x4 := cellH HX1.out 4
  have x5 := cellH HX1.out 5
  have x6 := cellH HX1.out 6
  simp at x0 x1 x2 x3 x4 x5 x6
  go_wp2_with fail
  refine (isgate_is _ _ _ _ _ _ _ _).mono ?_
  rintro e w3 ⟨rfl, hb3⟩
  have HB3 := Lib.hid (below_step HB1.out hb3)
  have HX3 := Lib.hid (later_at hb3 HX1.out)
  clear hb3 x0 x1 x2 x3 x4 x5 x6
  have x2 := cellH HX3.out 2
  have x4 := cellH HX3.out 4
  have x5 := cellH HX3.out 5
  have x6 := cellH HX3.out 6
  simp at x2 x4 x5 x6
  by_cases hg : t.need = 0
  · have hg' : (t.need != 0) = false := by rw [bne_eq_false_iff_eq]; exact hg
    have hp := HOK.out.plain hg
    have hz : sameB t.lv t.st 0 0 = true := by simp [sameB, hp.1, hp.2]
    clear hg hp
    go_wp2_with fail
    refine (HR1.out _).mono ?_
    rintro e w4 ⟨rfl, rfl⟩
    go_wp2_with fail
    go_ret
    exact ⟨rfl, HB3.out⟩
  · have hg' : (t.need != 0) = true := by rw [bne_iff_ne]; exact hg
    have hnd := HOK.out.need
    have hr : t.retry = 0 := HOK.out.gate (by omega)
    have HN1 := Lib.hid (fun x : World => within_is x t.need 1 4 true (decide_eq_true ⟨by omega, by omega⟩).symm)
    have hlab := HOK.out.lab
    have HLB := Lib.hid (fun x : World => right_is t.lv t.st true (by unfold rightB; simp; omega) x)
    have hr' : (t.retry == 0) = true := beq_iff_eq.2 hr
    clear hg hnd hr hlab
    go_wp2_with fail
    refine (HN1.out _).mono ?_
    rintro e w4 ⟨rfl, rfl⟩
    go_wp2_with fail
    refine (HLB.out _).mono ?_
    rintro e w5 ⟨rfl, hb5⟩
    have HB5 := Lib.hid (below_step HB3.out hb5)
    have HX5 := Lib.hid (later_at hb5 HX3.out)
    clear hb5 x2 x4 x5 x6
    have x2 := cellH HX5.out 2
    simp at x2
    go_wp2_with fail
    go_ret
    exact ⟨rfl, HB5.out⟩
theorem name_new {ts : List TkP} (hd : (ts.map (·.name)).Nodup) {k : Nat} {t : TkP} (ht : ts[k]? = some t) : memB t.name ((ts.map (·.name)).take k) = false := by
  rw [Bool.eq_false_iff]
  intro hc
  rw [memB_iff] at hc
  obtain ⟨j, hj⟩ := List.getElem?_of_mem hc
  have hjk : j < k := by
    have := (List.getElem?_eq_some_iff.1 hj).1
    rw [List.length_take] at this
    omega
  rw [List.getElem?_take_of_lt hjk] at hj
  have hk : (ts.map (·.name))[k]? = some t.name := by rw [List.getElem?_map, ht]; rfl
  exact absurd ((List.getElem?_inj (List.getElem?_eq_some_iff.1 hj).1 hd).1 (hj.trans hk.symm)) (by omega)
theorem names_next {ts : List TkP} {k : Nat} {t : TkP} (ht : ts[k]? = some t) : (ts.map (·.name)).take (k + 1) = (ts.map (·.name)).take k ++ [t.name] := by
  rw [List.take_add_one, List.getElem?_map, ht]
  rfl
set_option maxHeartbeats 2000000 in
set_option maxRecDepth 100000 in
theorem mright_is {p : PiP} (hA : TksAt w A p.tasks) (hp : RightPi p) : Calls Tryz.prog 63 #[.agg #[.string p.name, .slice A p.tasks.length c]] w fun e w' => e = .returned (.bool true) ∧ Below w.heap.size w w' := by
  have hb0 := (Below.refl w.heap.size w).alloc (Nat.le_refl _) (.cells #[.string p.name, .slice A p.tasks.length c] 24)
  have HB0 := Lib.hid hb0
  have HX := Lib.hid (made_at w (.cells #[.string p.name, .slice A p.tasks.length c] 24))
  have HA := Lib.hid hA
  have HP := Lib.hid hp
  have HIN := Lib.hid (fun x : World => show Calls Tryz.prog 83 #[.string p.name] x (fun e w' => e = .returned (.bool true) ∧ Below x.heap.size x w') by
    have h := isnameM_is p.name x
    rw [name_yes hp.name] at h
    exact h)
  have hmm := @run_makeMap Tryz.prog
  have HLN := Lib.hid (fun x : World => within_is x (p.tasks.length : Int) 1 8 true (decide_eq_true ⟨by have := hp.few; omega, by have := hp.few; omega⟩).symm)
  clear hb0 hA hp
  go_enter Tryz.func63, Tryz.ntmps63
  go_upto_region 1 with fail
  generalize hW0 : (w.alloc (.cells #[.string p.name, .slice A p.tasks.length c] 24)) = W0 at *
  clear hW0
  have x0 := cellH HX.out 0
  have x1 := cellH HX.out 1
  simp at x0 x1
  go_wp2_with fail
  refine (HIN.out _).mono ?_
  rintro e w1 ⟨rfl, hb1⟩
  have HB1 := Lib.hid (below_step HB0.out hb1)
  have HX1 := Lib.hid (later_at hb1 HX.out)
  clear hb1 x0 x1
  have x1 := cellH HX1.out 1
  simp at x1
  go_wp2_with fail
  refine (HLN.out _).mono ?_
  rintro e w2 ⟨rfl, rfl⟩
  have hb2 := (Below.refl w1.heap.size w1).alloc (Nat.le_refl _) (.map #[] 0)
  have HB2 := Lib.hid (below_step HB1.out hb2)
  have HX2 := Lib.hid (later_at hb2 HX1.out)
  have HM2 := Lib.hid (SetIs.made w1)
  have HPM := Lib.hid (show w.heap.size < w1.heap.size from (Array.getElem?_eq_some_iff.1 HX1.out).1)
  clear hb2 x1
  have x1 := cellH HX2.out 1
  simp at x1
  go_wp2_with fail
  go_loopw [21] (fun i wr => ∃ k : Nat, i = .int .i64 k ∧ k ≤ p.tasks.length ∧ Hid (Below w.heap.size w wr) ∧ Hid (wr.heap[w.heap.size]? = some (.cells #[.string p.name, .slice A p.tasks.length c] 24 (0, 0))) ∧ Hid (SetIs wr w1.heap.size k ((p.tasks.map (·.name)).take k))) (fun i _ => p.tasks.length - (intOf i).toNat)
  case atStart => exact ⟨0, rfl, Nat.zero_le _, HB2, HX2, HM2⟩
  case round =>
    obtain ⟨k, rfl, hk, HBW, HXW, HMW⟩ := hrel
    clear x1
    have x1 := cellH HXW.out 1
    simp at x1
    by_cases hlt : k < p.tasks.length
    · obtain ⟨t, ht⟩ : ∃ t, p.tasks[k]? = some t := ⟨_, List.getElem?_eq_getElem hlt⟩
      obtain ⟨pa, B1, c1, rfl, p0, pj, hN1, hcp⟩ := (HA.out.later HBW.out).at_ ht
      have p1 := pj 1 _ rfl
      have p2 := pj 2 _ rfl
      have p3 := pj 3 _ rfl
      have p4 := pj 4 _ rfl
      have p5 := pj 5 _ rfl
      have p6 := pj 6 _ rfl
      have hpb : (pa.add (k * 7)).block < wr.heap.size := World.block_lt_of_cell? wr _ p0
      have hk0 : (0 : Int) ≤ (k : Int) := by omega
      have hkl : (k : Int) < (p.tasks.length : Int) := by omega
      have hb1 := (Below.refl wr.heap.size wr).alloc (Nat.le_refl _) (.cells (tkA t B1 c1) 65)
      have HT := Lib.hid (made_at wr (.cells (tkA t B1 c1) 65))
      have HB3 := Lib.hid (below_step HBW.out hb1)
      have HX3 := Lib.hid (later_at hb1 HXW.out)
      have HM3 := Lib.hid (HMW.out.later hb1)
      have HMB := Lib.hid (maybe_is (hN1.later hb1) hcp (HP.out.task t (List.mem_of_getElem? ht)) HP.out.few.2)
      have hnew := name_new HP.out.names ht
      have HNX := Lib.hid (names_next ht)
      have HNO := Lib.hid (HP.out.task t (List.mem_of_getElem? ht)).name
      have hk8 := HP.out.few.2
      have HNW := Lib.hid hnew
      clear pj hN1 hcp hb1 hnew ht
      unfold tkA at HMB HT
      go_upto_region 7 with fail
      generalize hW3 : (wr.alloc (.cells #[.string t.name, .slice B1 t.after.length c1, .int .i64 t.retry, .int .i64 t.time, .int .i64 t.need, .int .i64 t.lv, .int .u16 t.st] 65)) = W3 at *
      clear hW3 p0 p1 p2 p3 p4 p5 p6 x1
      have y0 := cellH HT.out 0
      have y1 := cellH HT.out 1
      have y2 := cellH HT.out 2
      have y3 := cellH HT.out 3
      have y4 := cellH HT.out 4
      have y5 := cellH HT.out 5
      have y6 := cellH HT.out 6
      have x1 := cellH HX3.out 1
      simp at y0 y1 y2 y3 y4 y5 y6 x1
      go_wp2_with fail
      refine HMB.out.mono ?_
      rintro e w4 ⟨rfl, hb4⟩
      have HB4 := Lib.hid (below_step HB3.out hb4)
      have HX4 := Lib.hid (later_at hb4 HX3.out)
      have HM4 := Lib.hid (HM3.out.later hb4)
      have y0 := cellH (later_at hb4 HT.out) 0
      simp at y0
      have had := add_is HM4.out (by omega) t.name (by have := HNO.out.2.1; omega)
      rw [HNW.out] at had
      have HAD := Lib.hid had
      clear hb4 had x1 y1 y2 y3 y4 y5 y6
      go_wp2_with fail
      refine HAD.out.mono ?_
      rintro e w5 ⟨rfl, hap, hs5⟩
      have hpm := HPM.out
      have HB5 := Lib.hid (HB4.out.trans (hap.below (n := w.heap.size) (fun b e => by omega) HB4.out.size))
      have HX5 := Lib.hid ((hap.block w.heap.size (Array.getElem?_eq_some_iff.1 HX4.out).1 (by omega)).trans HX4.out)
      have HM5 := Lib.hid (show SetIs w5 w1.heap.size (k + 1) ((p.tasks.map (·.name)).take (k + 1)) by rw [HNX.out]; exact hs5)
      clear hap hs5 hpm
      go_wp2_with fail
      go_roundw
      case rel => exact ⟨k + 1, by go_num, by omega, HB5, HX5, HM5⟩
      case measure => simp [intOf]; omega
    · have hke : k = p.tasks.length := by omega
      subst hke
      go_wp2_with fail
      go_ret
      exact ⟨rfl, HBW.out⟩
end
end Go.Proofs.YtfjaibaidpbppaaGreatDoor

namespace Go.Proofs.YtfjaibaidpbppaaGreatDoor
open Go.RowKit

theorem cell_lt {w : World} {p : Addr} {v : Value} (h : w.cell? p = some v) : p.block < w.heap.size := by
  rcases Nat.lt_or_ge p.block w.heap.size with h1 | h1
  · exact h1
  · unfold World.cell? at h
    rw [Array.getElem?_eq_none h1] at h
    simp at h
theorem RightPi.afts {p : PiP} (h : RightPi p) : ∀ t ∈ p.tasks, t.after.length ≤ 1000000 := fun t ht => by
  have h1 := h.task t ht
  have h2 := few_below _ _ h1.aft.1 h1.aft.2
  have := h.few.2
  omega
section
variable {w : World} {A D : Option Addr} {c d : Nat} {n : ByteArray} {ts : List TkP}
set_option maxHeartbeats 1000000 in
set_option maxRecDepth 100000 in
theorem oready_is {ds : List Bool} (hA : TksAt w A ts) (hp : RightPi ⟨n, ts⟩) (hD : BoolsAt w D ds) :
    Calls Tryz.prog 68 #[.agg #[.string n, .slice A ts.length c], .slice D ds.length d] w fun e w' => (∃ B b, e = .returned (.slice B (readyP ⟨n, ts⟩ ds).length b) ∧ NatsAt w' B (readyP ⟨n, ts⟩ ds)) ∧ Below w.heap.size w w' := by
  rw [← readyK_all]
  have b0 := (Below.refl w.heap.size w).alloc (Nat.le_refl _) (.cells #[.string n, .slice A ts.length c] 24)
  have HX := Lib.hid (made_at w (.cells #[.string n, .slice A ts.length c] 24))
  have HA := Lib.hid (hA.later b0)
  have HD := Lib.hid (hD.later b0)
  have HP := Lib.hid hp
  have HB0 := Lib.hid b0
  have h8 : ts.length ≤ 8 := hp.few.2
  clear b0 hA hD hp
  go_enter Tryz.func68, Tryz.ntmps68
  go_upto_region 1 with fail
  generalize hW0 : (w.alloc (.cells #[.string n, .slice A ts.length c] 24)) = W0 at *
  clear hW0
  have x0 := cellH HX.out 0
  have x1 := cellH HX.out 1
  simp at x0 x1
  go_wp2_with fail
  refine (mright_is (p := ⟨n, ts⟩) HA.out HP.out).mono ?_
  rintro e w1 ⟨rfl, hb1⟩
  have HB1 := Lib.hid hb1
  have HX1 := Lib.hid (later_at hb1 HX.out)
  clear hb1 x0 x1
  have x1 := cellH HX1.out 1
  simp at x1
  go_wp2_with fail
  refine (readyT_is (HA.out.later HB1.out) (HD.out.later HB1.out) h8 HP.out.afts).mono ?_
  rintro e w2 ⟨⟨B, b, rfl, hN, _⟩, hb2⟩
  have HN := Lib.hid hN
  have HB2 := Lib.hid (below_step HB0.out (below_step HB1.out hb2))
  clear hN hb2
  go_wp2_with fail
  go_ret
  exact ⟨⟨_, _, rfl, HN.out⟩, HB2.out⟩

/-- What Order answers. -/
def OrdOut (w : World) (r : Option (List Nat)) (e : Ending) (w' : World) : Prop := Below w.heap.size w w' ∧ match r with
  | none => e = .returned (.tuple #[.slice none 0 0, .bool false])
  | some l => ∃ B b, e = .returned (.tuple #[.slice B l.length b, .bool true]) ∧ NatsAt w' B l ∧ l.length ≤ b
theorem bools_own {W : World} {b : Nat} {v : Value} {ds : List Bool} {k : Nat} (h : W.ownsRow b 4 1 v k (ds.map Value.bool)) : BoolsAt W (match v with | .slice A _ _ => A | _ => none) ds := by
  have hl := h.1
  rw [List.length_map, Nat.mul_one] at hl
  rcases h.2 with ⟨rfl, e⟩ | ⟨g, cap, cur, rfl, _, hq, hcp, _, _, ht⟩
  · intro h0; omega
  · intro _
    refine ⟨_, rfl, fun i x hi => ?_⟩
    have hadd : (⟨g, 0, none⟩ : Addr).add i = ⟨g, i, none⟩ := by unfold Addr.add; split <;> simp_all
    rw [hadd, cellH hq]
    have h3 : (cur.toList.take (k * 1))[i]? = some (Value.bool x) := by rw [ht, List.getElem?_map, hi]; rfl
    rw [List.getElem?_take] at h3
    split at h3
    · simpa using h3
    · exact absurd h3 (by simp)
/-- Where Order's done lies, and what it holds. -/
structure DnAt (W : World) (g b : Nat) (ds : List Bool) : Prop where
  own : W.ownsRow b 4 1 (.slice (some ⟨g, 0, none⟩) ds.length ds.length) ds.length (ds.map Value.bool)
theorem DnAt.bools {W : World} {g b : Nat} {ds : List Bool} (h : DnAt W g b ds) : BoolsAt W (some ⟨g, 0, none⟩) ds := bools_own h.own
/-- The middle of Order: k tasks stand, those of l; ds are done. -/
structure OrdM (W0 : World) (p : PiP) (g : Nat) (k : Nat) (v : Value) (l : List Nat) (ds : List Bool) (W : World) : Prop where
  list : W.ownsRow W0.heap.size 3 1 v k (natV l)
  len : l.length = k
  done : W.ownsRow W0.heap.size 4 1 (.slice (some ⟨g, 0, none⟩) p.tasks.length p.tasks.length) p.tasks.length (ds.map Value.bool)
  dlen : ds.length = p.tasks.length
  low : Below W0.heap.size W0 W
  go : orderP p = (orderGo p (p.tasks.length - k) ds).map (l ++ ·)
theorem OrdM.later {W0 W W' : World} {p : PiP} {g k : Nat} {v : Value} {l : List Nat} {ds : List Bool} (h : OrdM W0 p g k v l ds W) (hb : Below W.heap.size W W') : OrdM W0 p g k v l ds W' :=
  ⟨own_agree h.list (fun q _ hq => hb.block q hq), h.len, own_agree h.done (fun q _ hq => hb.block q hq), h.dlen, below_step h.low hb, h.go⟩
theorem OrdM.bools {W0 W : World} {p : PiP} {g k : Nat} {v : Value} {l : List Nat} {ds : List Bool} (h : OrdM W0 p g k v l ds W) : BoolsAt W (some ⟨g, 0, none⟩) ds := bools_own h.done
theorem own_block {W : World} {b g n c : Nat} {t : TypeId} {sz : Nat} {xs : List Value} (h : W.ownsRow b t sz (.slice (some ⟨g, 0, none⟩) n c) n xs) : ∃ cur, W.heap[g]? = some (.cells cur t (0, 0)) := (own_tag h rfl).2
/-- One more stands. -/
theorem OrdM.put {W0 W W1 : World} {p : PiP} {g k i : Nat} {v v1 : Value} {l : List Nat} {ds : List Bool} {r : List Nat} (h : OrdM W0 p g k v l ds W) (hk : k < p.tasks.length) (hr : readyP p ds = i :: r)
    (ho : W1.ownsRow W0.heap.size 3 1 v1 (k + 1) (natV l ++ [.int .i64 (i : Nat)])) (hg : W.grownBy W1 v.ownBlock) :
    OrdM W0 p g (k + 1) v1 (l ++ [i]) (ds.set i true) (W1.setCell ⟨g, i, none⟩ (.bool true)) ∧ (∃ x, W1.cell? ⟨g, i, none⟩ = some (.bool x)) ∧ W1.frozen? ⟨g, i, none⟩ = false := by
  obtain ⟨cur, hcur⟩ := own_block h.done
  have h1 : W1.ownsRow W0.heap.size 4 1 (.slice (some ⟨g, 0, none⟩) p.tasks.length p.tasks.length) p.tasks.length (ds.map Value.bool) := own_frame h.done (fun q cur _ hq => hg.block q (Array.getElem?_eq_some_iff.1 hq).1 (fun e => by
    obtain ⟨_, cur', h2⟩ := own_tag h.list e.symm
    exact absurd (tag_ne hq h2) (by decide)))
  obtain ⟨cur1, hcur1⟩ := own_block h1
  have hst := h1.stored i (.bool true)
  have hi := (ready_head hr).1
  have hgb : W0.heap.size ≤ g := (own_tag h1 rfl).1
  have hgo : orderGo p (p.tasks.length - k) ds = (orderGo p (p.tasks.length - (k + 1)) (ds.set i true)).map (i :: ·) := by
    rw [show p.tasks.length - k = (p.tasks.length - (k + 1)) + 1 by omega]
    show (match readyP p ds with | [] => none | i :: _ => (orderGo p (p.tasks.length - (k + 1)) (ds.set i true)).map (i :: ·)) = _
    rw [hr]
  have hb := (own_tag h1 rfl).1
  refine ⟨⟨?_, by rw [List.length_append, h.len]; rfl, ?_, by rw [List.length_set]; exact h.dlen, ?_, ?_⟩, ?_, h1.frozenAt i⟩
  · refine own_frame (xs := natV (l ++ [i])) (by simpa [natV] using ho) (fun q cur _ hq => ?_)
    refine Below.heap_setCell W1 ⟨g, i, none⟩ (.bool true) q ?_
    intro e
    obtain rfl : q = g := e
    exact absurd (tag_ne hq hcur1) (by decide)
  · have := hst.1
    rwa [show (ds.map Value.bool).set i (.bool true) = (ds.set i true).map Value.bool by rw [List.map_set]] at this
  · exact (h.low.grown hg h.low.size (fun q hq => (own_tag h.list hq).1)).setCell hgb _
  · rw [h.go, hgo, Option.map_map]
    congr 1
    funext m
    simp
  · obtain ⟨x, hx⟩ : ∃ x, ds[i]? = some x := ⟨_, List.getElem?_eq_getElem (by rw [h.dlen]; exact hi)⟩
    obtain ⟨ad, e, hc⟩ := (bools_own h1).at_ hx
    injection e with e
    subst e
    refine ⟨x, ?_⟩
    have hadd : (⟨g, 0, none⟩ : Addr).add i = ⟨g, i, none⟩ := by unfold Addr.add; split <;> simp_all
    rwa [hadd] at hc
end
end Go.Proofs.YtfjaibaidpbppaaGreatDoor

namespace Go.Proofs.YtfjaibaidpbppaaGreatDoor
open Go.RowKit

/-- Rows in memory: the block g holds the numbers r. -/
structure RwAt (W2 : World) (g : Nat) (r : List Nat) (W : World) : Prop where
  own : W.ownsRow W2.heap.size 3 1 (.slice (some ⟨g, 0, none⟩) r.length r.length) r.length (natV r)
  low : Below W2.heap.size W2 W
theorem RwAt.cell {W2 W : World} {g : Nat} {r : List Nat} (h : RwAt W2 g r W) {i : Nat} (hi : i < r.length) : W.cell? ⟨g, i, none⟩ = some (.int .i64 (r.getD i 0 : Nat)) := by
  rw [h.own.cellAt i (by omega), List.getElem?_map, List.getElem?_eq_getElem hi, List.getD_eq_getElem?_getD, List.getElem?_eq_getElem hi]
  rfl
theorem RwAt.set {W2 W : World} {g : Nat} {r : List Nat} (h : RwAt W2 g r W) (i v : Nat) : RwAt W2 g (r.set i v) (W.setCell ⟨g, i, none⟩ (.int .i64 (v : Nat))) := by
  have hst := (h.own.stored i (.int .i64 (v : Nat))).1
  refine ⟨?_, h.low.setCell (p := ⟨g, i, none⟩) (own_tag h.own rfl).1 _⟩
  rw [List.length_set]
  rwa [show (natV r).set i (.int .i64 (v : Nat)) = natV (r.set i v) by unfold natV; rw [List.map_set]] at hst
theorem RwAt.drew {W2 W : World} {g : Nat} {r : List Nat} (h : RwAt W2 g r W) : RwAt W2 g r W.drew := ⟨h.own, h.low.drew⟩
theorem maxNI (a b : Nat) : maxI (a : Int) (b : Int) = ((max a b : Nat) : Int) := by
  unfold maxI
  split <;> omega
theorem fold_take {α β : Type} (f : β → α → β) {l : List α} {k : Nat} {x : α} (hx : l[k]? = some x) (b : β) : (l.take (k + 1)).foldl f b = f ((l.take k).foldl f b) x := by
  rw [List.take_add_one, hx, List.foldl_append]
  rfl
theorem take_le {ts : List TkP} : ∀ (l : List Nat) (s : List Nat × Nat) (K : Nat), (∀ i ∈ l, i < s.1.length) → (∀ j, s.1.getD j 0 ≤ K) → s.2 ≤ K → (∀ j, (l.foldl (rowStep ts) s).1.getD j 0 ≤ K + l.length) ∧ (l.foldl (rowStep ts) s).2 ≤ K + l.length ∧ (l.foldl (rowStep ts) s).1.length = s.1.length := by
  intro l
  induction l with
  | nil => exact fun s K _ h1 h2 => ⟨h1, h2, rfl⟩
  | cons i l ih =>
    intro s K hl hr h2
    have hi := hl i List.mem_cons_self
    have h3 := rows_le (aftN ts i) s.1 hi hr
    have := ih (rowStep ts s i) (K + 1) (fun j hj => by rw [step_len]; exact hl j (List.mem_cons_of_mem _ hj)) (fun j => by
      rw [step_at hi]
      split
      · have := h3 i; omega
      · have := hr j; omega) (by rw [step_two hi]; have := h3 i; omega)
    rw [List.foldl_cons, List.length_cons]
    refine ⟨fun j => ?_, ?_, this.2.2.trans (step_len _ _ _)⟩
    · have := this.1 j; omega
    · omega
section
variable {w : World} {A D : Option Addr} {c d : Nat} {n : ByteArray} {ts : List TkP}
end
end Go.Proofs.YtfjaibaidpbppaaGreatDoor
