/-
  What the laws of layer 4 ask of the program's sector: each call does what the document's does. (A bundle of contracts; Next is asked for elsewhere.) SectorTorn, walked over it, given what awake answers. Two steps through a region that draws its order, with the slot that is written named: an operation that runs, and one whose guard is false. No program is named here. What the document's Int and Text (package lockageref06) answer. No conditions but a number's range, and a text's length. What the document's Int and Text (package lockageref06) answer. No conditions but a number's range, and a text's length. A row of bytes of the call's own, and what append of a text leaves of it, where the new row lies. No program is named here.
-/
import Derived.Test.YtfjaibaidpbppaaGreatDoorCodR
import Derived.Outline
import Derived.Deep.RegionHeld3
import Derived.Test.YtfjaibaidpbppaaGreatDoorPhaseB
import Derived.Deep.DeepCutAuto
import Derived.Test.YtfjaibaidpbppaaGreatDoorFirst
import Derived.Lib.AppendStr
import Derived.Lib.ConvBytes
import Derived.Lib.UnsafeStr
import Derived.Below
namespace Go.Proofs.YtfjaibaidpbppaaGreatDoor
open Go.RowKit

/-- Its numbers are such as the types hold. -/
structure Pc.In (p : Pc) : Prop where
  fits : p.Fits
  g : -9223372036854775808 ≤ p.gen ∧ p.gen ≤ 9223372036854775807
  n : -9223372036854775808 ≤ p.no ∧ p.no ≤ 9223372036854775807
  i : -9223372036854775808 ≤ p.idx ∧ p.idx ≤ 9223372036854775807
  t : -9223372036854775808 ≤ p.tot ∧ p.tot ≤ 9223372036854775807
  d : p.data.size ≤ maxLen

theorem below_step {w a b : World} (h : Below w.heap.size w a) (k : Below a.heap.size a b) : Below w.heap.size w b := h.trans (k.mono h.size)

theorem cut_count (n : Int) : ∃ m : Nat, wrap64 (8 + wrap64 ((IntKind.u64.wrap n).tmod 49)) = m ∧ 8 ≤ m ∧ m ≤ 56 := by
  have h0 : 0 ≤ IntKind.u64.wrap n := by rw [IntKind.wrap_u64]; omega
  have e : (IntKind.u64.wrap n).tmod 49 = IntKind.u64.wrap n % 49 := Int.tmod_eq_emod_of_nonneg h0
  rw [e]
  generalize IntKind.u64.wrap n = z at h0
  refine ⟨(8 + z % 49).toNat, ?_, by omega, by omega⟩
  unfold wrap64
  omega

end Go.Proofs.YtfjaibaidpbppaaGreatDoor

namespace Go.Proofs.YtfjaibaidpbppaaGreatDoor
variable {P : Program} {ops : Array Oper} {Q : Exit → Act → World → Prop} {md : Region.Mode} {S : World → Prop}

/-- Operation i runs first: it leaves v in slot d in every world that meets S. -/
theorem take_yes (i d : Nat) {oi : Oper} {v : Value} {fuel : Nat} {listed : Array Bool} {a : Act} {w : World} (hi : ops[i]? = some oi) (hd : oi.dst = some d)
    (hs : Region.noSelect ops = true) (hf : Region.free md ops listed i = true) (hr : (Region.ready md ops listed).contains i = true)
    (hQ : ∀ c a d v w, Q (.panic c) (a.put d v) w → Q (.panic c) a w) (hg : Region.wanted oi (yielded ops a.tmps) = true) (hS : S w)
    (hy : ∀ w, S w → (execOp a.eval oi).run P w = .ok (.value v) w)
    (h : wpAnyH P md ops Q S fuel (listed.setIfInBounds i true) (a.put (some d) v) w) : wpAnyH P md ops Q S (fuel + 1) listed a w :=
  wpAnyH_take hi hs hf hr (fun c a w h => hQ c a _ _ w h) (Or.inl ⟨hg, hy⟩) hS (by rw [hd]; exact h)

/-- Operation i is passed over: its guard is false. -/
theorem take_no (i d : Nat) {oi : Oper} {fuel : Nat} {listed : Array Bool} {a : Act} {w : World} (hi : ops[i]? = some oi) (hd : oi.dst = some d)
    (hs : Region.noSelect ops = true) (hf : Region.free md ops listed i = true) (hr : (Region.ready md ops listed).contains i = true)
    (hQ : ∀ c a d v w, Q (.panic c) (a.put d v) w → Q (.panic c) a w) (hg : Region.wanted oi (yielded ops a.tmps) = false) (hS : S w)
    (h : wpAnyH P md ops Q S fuel (listed.setIfInBounds i true) (a.put (some d) undef) w) : wpAnyH P md ops Q S (fuel + 1) listed a w :=
  wpAnyH_take hi hs hf hr (fun c a w h => hQ c a _ _ w h) (Or.inr ⟨hg, rfl⟩) hS (by rw [hd]; exact h)

theorem noPanic_any {Q : Exit → Act → World → Prop} : ∀ c a d v w, NoPanic Q (.panic c) (a.put d v) w → NoPanic Q (.panic c) a w := fun _ _ _ _ _ h => h

end Go.Proofs.YtfjaibaidpbppaaGreatDoor

namespace Go.Proofs.YtfjaibaidpbppaaGreatDoor
open Go.RowKit

theorem noPanic_normal {Q : Exit → Act → World → Prop} {a : Act} {w : World} (h : Q .normal a w) : NoPanic Q .normal a w := h
theorem nums_one (d : UInt8) : strOfNums [(d.toNat : Int)] = ofL [d] := by
  apply bl_inj
  rw [bl_ofL]
  simp [strOfNums, bl]
theorem conv_one {w : World} {B : Nat} (d : UInt8) (h : w.heap[B]? = some (.cells #[.int .u8 (d.toNat : Int)] 5 (0, 0))) : (convert 120 9 (.slice (some ⟨B, 0, none⟩) 1 1)).run Tryz.prog w = .ok (.string (ofL [d])) w := by
  rw [← nums_one]
  refine run_convert_bytes_arg _ 120 5 Tryz.underlying120 Tryz.underlying5 _ 0 1 1 [(d.toNat : Int)] (by simp) (fun i hi => ?_) 9 Tryz.underlying9
  have hi0 : i = 0 := by simpa using hi
  subst hi0
  simp [World.cell?, h]
/-- One digit, as a byte. -/
def digB (n : Nat) : UInt8 := UInt8.ofNat (48 + n % 10)
theorem digB_val (n : Nat) : ((digB n).toNat : Int) = 48 + ((n % 10 : Nat) : Int) := by
  unfold digB
  rw [dig_val (by omega)]
  omega
theorem digX_len {n : Nat} (h : n < 18446744073709551616) : (ofL (digN n)).size ≤ 20 := by
  have := digN_len n 20 (by omega) (by omega)
  rw [← bl_len, bl_ofL]
  exact this

end Go.Proofs.YtfjaibaidpbppaaGreatDoor

namespace Go.Proofs.YtfjaibaidpbppaaGreatDoor
open Go.RowKit

theorem numX_neg {n : Int} (h : n < 0) : numX n = (⟨#[45]⟩ : ByteArray) ++ ofL (digN n.natAbs) ++ (⟨#[44]⟩ : ByteArray) := by
  apply bl_inj
  rw [bl_numX, bl_append, bl_append, bl_ofL]
  unfold numT
  rw [if_pos h]
  rfl
theorem numX_pos {n : Int} (h : ¬ n < 0) : numX n = ofL (digN n.natAbs) ++ (⟨#[44]⟩ : ByteArray) := by
  apply bl_inj
  rw [bl_numX, bl_append, bl_ofL]
  unfold numT
  rw [if_neg h]
  rfl
theorem numX_len {n : Int} (h0 : -9223372036854775808 ≤ n) (h1 : n ≤ 9223372036854775807) : 2 ≤ (numX n).size ∧ (numX n).size ≤ 21 := by
  have := headT_len h0 h1
  rw [← bl_len, bl_numX, numT_head, List.length_append, List.length_singleton]
  omega
end Go.Proofs.YtfjaibaidpbppaaGreatDoor

namespace Go.Proofs.YtfjaibaidpbppaaGreatDoor
open Go.RowKit

/-- Block g is a row of bytes with room for cap, none of it frozen; l stands at its front. -/
def Row (e : TypeId) (w : World) (g cap : Nat) (l : List UInt8) : Prop :=
  ∃ (cur : Array Value) (fz : Nat × Nat), w.heap[g]? = some (.cells cur e fz) ∧ (fz.2 = 0 ∨ cap ≤ fz.1) ∧ l.length ≤ cap ∧ cap ≤ maxLen ∧ cur.size = cap ∧ cur.toList.take l.length = Lib.byteCells l
section
variable {e : TypeId} {w : World} {g cap : Nat} {l : List UInt8}
theorem Row.low (h : Row e w g cap l) : g < w.heap.size := by
  obtain ⟨_, _, h, _⟩ := h
  exact (Array.getElem?_eq_some_iff.1 h).1
theorem Row.block {w' : World} (h : Row e w g cap l) (hb : w'.heap[g]? = w.heap[g]?) : Row e w' g cap l := by
  obtain ⟨cur, fz, h, r⟩ := h
  exact ⟨cur, fz, hb.trans h, r⟩
theorem Row.cell (h : Row e w g cap l) (j : Nat) (hj : j < l.length) : w.cell? ⟨g, j, none⟩ = some (.int .u8 (l[j].toNat : Int)) := by
  obtain ⟨cur, fz, h, _, _, _, h4, h5⟩ := h
  have h6 := congrArg (fun x => x[j]?) h5
  simp only [List.getElem?_take, if_pos hj, Lib.byteCells, List.getElem?_map, List.getElem?_eq_getElem hj, Option.map_some] at h6
  simp only [World.cell?, h]
  rw [← Array.getElem?_toList]
  exact h6

theorem store_free (P : Program) (g o : Nat) (t : TypeId) (fz : Nat × Nat) : ∀ (vs : List Value) (i : Nat) (cur : Array Value) (w : World), w.heap[g]? = some (.cells cur t fz) → (fz.2 = 0 ∨ cur.size ≤ fz.1) → o + i + vs.length ≤ cur.size → (∀ v ∈ vs, v.oneCell' = true) →
    (storeCells ⟨g, o, none⟩ vs i).run P w = .ok () (w.setRow g (cur.toList.take (o + i) ++ vs ++ cur.toList.drop (o + i + vs.length)).toArray)
  | [], i, cur, w, hg, _, _, _ => by
    simp only [storeCells, List.append_nil, List.length_nil, Nat.add_zero, List.take_append_drop, Array.toArray_toList]
    rw [setRow_self w g cur t fz hg]
    rfl
  | v :: rest, i, cur, w, hg, hfz, hl, h1 => by
    have hi : o + i < cur.size := by simp at hl; omega
    have hadd : (⟨g, o, none⟩ : Addr).add i = ⟨g, o + i, none⟩ := by unfold Addr.add; split <;> simp_all
    have hcell : w.cell? ⟨g, o + i, none⟩ = some cur[o + i] := by simp [World.cell?, hg, hi]
    have hfro : w.frozen? ⟨g, o + i, none⟩ = false := by
      obtain ⟨lo, hi'⟩ := fz
      simp only [World.frozen?, hg, Bool.and_eq_false_iff, decide_eq_false_iff_not]
      simp only at hfz
      omega
    have hst : (store ((⟨g, o, none⟩ : Addr).add i) v).run P w = .ok () (w.setRow g (cur.setIfInBounds (o + i) v)) := by
      rw [hadd, run_store P w _ v _ (h1 v (by simp)), hcell]
      simp [hfro, setCell_eq_setRow w g (o + i) cur t fz v hg]
    have ih := store_free P g o t fz rest (i + 1) (cur.setIfInBounds (o + i) v) (w.setRow g (cur.setIfInBounds (o + i) v)) (setRow_heap w g cur _ t _ hg) (by simpa using hfz) (by simp at hl ⊢; omega) (fun x hx => h1 x (by simp [hx]))
    simp only [storeCells, Sem.run_bind, hst, Result.andThen_ok, ih, setRow_setRow]
    congr 3
    have e := list_seg_step cur.toList (o + i) v rest (by simp at hl ⊢; omega)
    simpa [Array.toList_setIfInBounds, Nat.add_assoc] using e

/-- append of a text: the row stays where it lay, or a new one is made. -/
theorem run_append_row {P : Program} (t u ty : TypeId) (i : TypeInfo) (ht : P.underlying t = some (.slice e)) (hu : P.underlying u = some .string) (hi : P.info? e = some i) (hz : i.zero = some (.int .u8 0)) (hsize : i.size = 1) (hby : i.bytes = 1)
    (h : Row e w g cap l) (s : ByteArray) (hb : l.length + s.size ≤ 140737488355328) :
    ∃ g' cap' w', (Builtin.append_ #[t, u] ty #[.slice (some ⟨g, 0, none⟩) l.length cap, .string s]).run P w = .ok (.slice (some ⟨g', 0, none⟩) (l.length + s.size : Nat) cap') w' ∧ Row e w' g' cap' (l ++ bl s) ∧ (g' = g ∨ g' = w.heap.size) ∧ w.grownBy w' (some g) := by
  obtain ⟨cur, fz, hg, hfz, hlc, hcm, hcs, htk⟩ := id h
  have hcl : (Lib.byteCells l).length = l.length := by simp [Lib.byteCells]
  have hlen : (Lib.byteCells l ++ Lib.strCells s).length = (l ++ bl s).length := by simp [hcl, Lib.strCells_length, bl_len]
  have hcells : Lib.byteCells l ++ Lib.strCells s = Lib.byteCells (l ++ bl s) := by rw [Lib.byteCells_append]; rfl
  have h63 : l.length + s.size ≤ maxLen := by unfold maxLen; omega
  by_cases hroom : l.length + s.size ≤ cap
  · have hf := Lib.run_firstCells_string (P := P) w 1 s
    have hst := store_free P g l.length e fz (Lib.strCells s) 0 cur w hg (by rw [hcs]; exact hfz) (by simpa [Lib.strCells_length, hcs] using hroom) (Lib.strCells_oneCell s)
    simp only [Nat.add_zero, Lib.strCells_length] at hst
    have hr : (Builtin.append_ #[t, u] ty #[.slice (some ⟨g, 0, none⟩) l.length cap, .string s]).run P w = .ok (.slice (some ⟨g, 0, none⟩) (l.length + s.size : Nat) cap) (w.setRow g (cur.toList.take l.length ++ Lib.strCells s ++ cur.toList.drop (l.length + s.size)).toArray) := by
      simp [Builtin.append_, run_underlying ht, run_underlying hu, sizeOf, typeInfo, hi, hsize, Builtin.lenOf, hroom, hf, Addr.add_lit, hst]
    refine ⟨g, cap, _, hr, ?_, .inl rfl, ⟨rfl, rfl, rfl, by simp, fun k _ hk => setRow_other w g k _ (fun e => hk (by rw [e]))⟩⟩
    refine ⟨_, fz, setRow_heap w g cur _ e _ hg, hfz, by rw [List.length_append, bl_len]; exact hroom, hcm, ?_, ?_⟩
    · simp only [List.size_toArray, List.length_append, List.length_take, List.length_drop, Array.length_toList, Lib.strCells_length]
      omega
    · rw [htk, ← hcells, ← hlen]
      exact List.take_left
  · have hr := Lib.run_append_grow_string (P := P) w t u ty e i (.int .u8 0) ht hu hi hz ⟨g, 0, none⟩ l.length cap (Lib.byteCells l) (by rw [hsize]; simpa using hcl) (fun j v hj => by
      have hj' : j < l.length := by rw [← hcl]; exact (List.getElem?_eq_some_iff.1 hj).1
      have hadd : (⟨g, 0, none⟩ : Addr).add j = ⟨g, j, none⟩ := by unfold Addr.add; split <;> simp_all
      rw [hadd, h.cell j hj']
      simp only [Lib.byteCells, List.getElem?_map, List.getElem?_eq_getElem hj', Option.map_some] at hj
      exact hj) s (by omega) (by unfold maxLen at h63; omega) (by rw [hby]; exact growslice_fits (by omega) (by omega))
    have hge := grownCap_ge w (l.length + s.size) cap e
    have hcm2 : grownCap w (l.length + s.size) cap e ≤ maxLen := grownCap_le_maxLen w (l.length + s.size) cap e h63
    refine ⟨w.heap.size, _, _, hr, ?_, .inr rfl, ⟨rfl, rfl, rfl, by simp, fun k hk _ => heap_alloc_old w.drew _ hk⟩⟩
    refine ⟨_, (0, 0), heap_alloc_new w.drew _, .inl rfl, by rw [List.length_append, bl_len]; exact hge, hcm2, ?_, ?_⟩
    · have hz1 : (Value.int IntKind.u8 0).cells.size = 1 := rfl
      simp only [Array.size_append, List.size_toArray, size_zeroCells, hz1, hcl, Lib.strCells_length]
      omega
    · simp only [Array.toList_append, List.append_assoc]
      rw [← List.append_assoc, hcells, ← hlen, hcells]
      exact List.take_left
end
end Go.Proofs.YtfjaibaidpbppaaGreatDoor
