/-
  The laws' calls (package lockagelaw06) that come in as an argument, opened; what few answers of them. No conditions but how they lie. What the laws of layer 6 ask of the program's Reader: each call does what the document's does. (A bundle of contracts, over whatever way in which the Reader lies in memory.) The document's own, in the same words. The program's Reader: what each call answers and leaves. Conditions: how the Reader lies, what the package-level variables hold, a text's length.
-/
import Derived.Test.YtfjaibaidpbppaaGreatDoorLexP
import Derived.ProofKit
import Derived.OpenShut
import Derived.ChangeOld
import Derived.Deep.Slices
import Derived.SliceStrings
import Derived.Lib.SmallJoins
namespace Go.Proofs.YtfjaibaidpbppaaGreatDoor
open Go.ChangeShapes Go.WideShapes Go.ChangeAt Go.RowKit Go.Joins Go.Deep

/-- One call of the laws. -/
structure COp where
  k : Int
  n : Int
  lo : Int
  hi : Int
  s : ByteArray
  a : Int
  b : Int
/-- What is known of one call that comes in. -/
structure COp.Ok (o : COp) : Prop where
  k0 : -9223372036854775808 ≤ o.k
  k1 : o.k ≤ 9223372036854775807
  n0 : -9223372036854775808 ≤ o.n
  n1 : o.n ≤ 9223372036854775807
  lo0 : -9223372036854775808 ≤ o.lo
  lo1 : o.lo ≤ 9223372036854775807
  hi0 : -9223372036854775808 ≤ o.hi
  hi1 : o.hi ≤ 9223372036854775807
  s1 : o.s.size ≤ maxLen
  a0 : -9223372036854775808 ≤ o.a
  a1 : o.a ≤ 9223372036854775807
  b0 : 0 ≤ o.b
  b1 : o.b ≤ 65535
/-- The cells of a call. -/
def copL (o : COp) : List Value := [.int .i64 o.k, .int .i64 o.n, .int .i64 o.lo, .int .i64 o.hi, .string o.s, .int .i64 o.a, .int .u16 o.b]

section
variable {H : Type} {enc : TypeId × Value → H} {w : World} {base : Nat} {spare : Nat → Bool} {held : Bool}

theorem cellsLab : Tryz.prog.cellsOf 63 = 2 := by kernel_rfl
theorem cellsI : Tryz.prog.cellsOf 3 = 1 := by kernel_rfl
theorem cellsH : Tryz.prog.cellsOf 61 = 1 := by kernel_rfl
theorem cellsS : Tryz.prog.cellsOf 9 = 1 := by kernel_rfl

set_option maxRecDepth 100000 in
theorem lab_open {fuel : Nat} {cs : List Value} {x : DataW H × List MemPlace} (h : DataW.trod enc Tryz.prog w base spare held fuel 63 cs = some x) :
    ∃ a b : Int, cs = [.int .i64 a, .int .u16 b] ∧ (-9223372036854775808 ≤ a ∧ a ≤ 9223372036854775807) ∧ 0 ≤ b ∧ b ≤ 65535 := by
  obtain ⟨xs, n, _, _, hlen, hxl, hf⟩ := DataW.trod_struct Tryz.underlying63 h
  rw [cellsLab] at hlen
  match cs, hlen with
  | [c0, c1], _ =>
    have h0 := hf 0 _ rfl
    have h1 := hf 1 _ rfl
    have hx0 : xs[0]? = some (xs[0]'(by rw [hxl]; decide)) := List.getElem?_eq_getElem _
    have hx1 : xs[1]? = some (xs[1]'(by rw [hxl]; decide)) := List.getElem?_eq_getElem _
    rw [hx0] at h0
    rw [hx1] at h1
    simp only [List.getElem_toArray, List.getElem_cons_zero, List.getElem_cons_succ] at h0 h1
    simp only [cellsI, cellsH, List.drop_zero, List.take_succ_cons, List.take_zero, List.drop_succ_cons] at h0 h1
    obtain ⟨a, e0, _, ha⟩ := DataW.trod_int Tryz.underlying3 h0
    obtain ⟨b, e1, _, hb⟩ := DataW.trod_int Tryz.underlying61 h1
    injection e0 with e0
    injection e1 with e1
    exact ⟨a, b, by rw [e0, e1], bounds_i64 ha, bounds_u16 hb⟩

/-- n calls stand at A. -/
def CopsAt (w : World) (A : Option Addr) (n : Nat) (op : Nat → COp) : Prop :=
  0 < n → ∃ ad, A = some ad ∧ ∀ i, i < n → w.cell? (ad.add (i * 7)) = some (.int .i64 (op i).k) ∧ w.cell? ⟨(ad.add (i * 7)).block, (ad.add (i * 7)).off + 1, none⟩ = some (.int .i64 (op i).n) ∧
    w.cell? ⟨(ad.add (i * 7)).block, (ad.add (i * 7)).off + 1 + 1, none⟩ = some (.int .i64 (op i).lo) ∧ w.cell? ⟨(ad.add (i * 7)).block, (ad.add (i * 7)).off + 1 + 1 + 1, none⟩ = some (.int .i64 (op i).hi) ∧
    w.cell? ⟨(ad.add (i * 7)).block, (ad.add (i * 7)).off + 1 + 1 + 1 + 1, none⟩ = some (.string (op i).s) ∧ w.cell? ⟨(ad.add (i * 7)).block, (ad.add (i * 7)).off + 1 + 1 + 1 + 1 + 1, none⟩ = some (.int .i64 (op i).a) ∧
    w.cell? ⟨(ad.add (i * 7)).block, (ad.add (i * 7)).off + 1 + 1 + 1 + 1 + 1 + 1, none⟩ = some (.int .u16 (op i).b)
theorem CopsAt.later {w w' : World} {A : Option Addr} {n : Nat} {op : Nat → COp} (h : CopsAt w A n op) (hb : Below w.heap.size w w') : CopsAt w' A n op := fun hn => by
  obtain ⟨ad, e, hc⟩ := h hn
  refine ⟨ad, e, fun i hi => ?_⟩
  obtain ⟨h0, h1, h2, h3, h4, h5, h6⟩ := hc i hi
  exact ⟨cell_later hb h0, cell_later hb h1, cell_later hb h2, cell_later hb h3, cell_later hb h4, cell_later hb h5, cell_later hb h6⟩
theorem addr_at (ad : Addr) (k j : Nat) : (⟨(ad.add k).block, (ad.add k).off + (j + 1), none⟩ : Addr) = ad.add (k + (j + 1)) := by
  unfold Addr.add
  by_cases hk : k = 0 <;> simp [hk, Nat.add_assoc]
def numAt (w : World) (a : Addr) : Int := match w.cell? a with | some (.int _ z) => z | _ => 0
def txtAt (w : World) (a : Addr) : ByteArray := match w.cell? a with | some (.string s) => s | _ => ⟨#[]⟩
end

section
variable {w : World} {A : Option Addr} {n c : Nat} {op : Nat → COp}
/-- Few calls, with texts that aren't long. -/
def fewOk (n : Nat) (op : Nat → COp) : Prop := n ≤ 100 ∧ ∀ i, i < n → (op i).s.size ≤ 300
/-- What few answers. -/
def FewE (n : Nat) (op : Nat → COp) (e : Ending) : Prop := ∃ b, e = .returned (.bool b) ∧ (b = true → fewOk n op)
end
end Go.Proofs.YtfjaibaidpbppaaGreatDoor

namespace Go.Proofs.YtfjaibaidpbppaaGreatDoor
open Go.RowKit

/-- What Int answers and leaves, of a Reader that has met something wrong (b) or not. -/
def iV (b : Bool) (r : Option (Int × List UInt8)) : Int := if b then 0 else rdN r
def iS (S : ByteArray) (b : Bool) (r : Option (Int × List UInt8)) : ByteArray := if b then S else rdS S r
def iB (b : Bool) (r : Option (Int × List UInt8)) : Bool := b || r.isNone
/-- What Text answers and leaves. -/
def tV (b : Bool) (r : Option (Int × List UInt8)) : ByteArray := if b then .empty else rtT r
def tS (S : ByteArray) (b : Bool) (r : Option (Int × List UInt8)) : ByteArray := if b then S else rtS S r
def tB (b : Bool) (r : Option (Int × List UInt8)) : Bool := b || rtB r

theorem takes_len {S : ByteArray} {lo hi n : Int} {x : List UInt8} (h : Takes (bl S) lo hi (some (n, x))) : x.length ≤ S.size := by
  rcases h with ⟨m, y, _, _, a3, _, _, e⟩ | ⟨_, e⟩
  · obtain ⟨rfl, rfl⟩ := Prod.mk.inj (Option.some.inj e)
    have := congrArg List.length a3
    rw [bl_len, List.length_append] at this
    omega
  · cases e
theorem size_ofL (l : List UInt8) : (ofL l).size = l.length := by rw [← bl_len, bl_ofL]
theorem iS_size {S : ByteArray} {lo hi : Int} {b : Bool} {r : Option (Int × List UInt8)} (h : Takes (bl S) lo hi r) : (iS S b r).size ≤ S.size := by
  unfold iS
  split
  · exact Nat.le_refl _
  · cases r with
    | none => exact Nat.le_refl _
    | some q => simp only [rdS]; rw [size_ofL]; exact takes_len h
theorem tS_size {S : ByteArray} {lo hi : Int} {b : Bool} {r : Option (Int × List UInt8)} (h : Takes (bl S) lo hi r) : (tS S b r).size ≤ S.size := by
  unfold tS
  split
  · exact Nat.le_refl _
  · cases r with
    | none => exact Nat.le_refl _
    | some q =>
      have := takes_len h
      simp only [rtS]
      split
      · rw [size_ofL]; exact this
      · rw [size_ofL, List.length_drop]; omega
theorem iV_range {S : ByteArray} {lo hi : Int} {b : Bool} {r : Option (Int × List UInt8)} (h : Takes (bl S) lo hi r) : (-9223372036854775808 ≤ iV b r ∧ iV b r ≤ 9223372036854775807) ∧ (iV b r = 0 ∨ (lo ≤ iV b r ∧ iV b r ≤ hi)) := by
  unfold iV
  split
  · exact ⟨by omega, .inl rfl⟩
  · rcases h with ⟨m, y, a1, a2, _, a4, a5, rfl⟩ | ⟨_, rfl⟩
    · exact ⟨⟨a1, a2⟩, .inr ⟨a4, a5⟩⟩
    · exact ⟨⟨by simp [rdN], by simp [rdN]⟩, .inl rfl⟩

theorem Only1.low {R : Nat} {w a b : World} (h : Below w.heap.size w a) (ho : Only1 R a b) (hR : w.heap.size ≤ R) : Below w.heap.size w b :=
  ⟨ho.os.trans h.os, ho.tape.trans h.tape, ho.output.trans h.output, Nat.le_trans h.size ho.size, fun i hi => (ho.block i (Nat.lt_of_lt_of_le hi h.size) (by omega)).trans (h.block i hi)⟩
theorem Only1.at {R i : Nat} {w w' : World} {o : Obj} (ho : Only1 R w w') (h : w.heap[i]? = some o) (hn : i ≠ R) : w'.heap[i]? = some o := by
  rw [ho.block i (Array.getElem?_eq_some_iff.1 h).1 hn]
  exact h

section
variable {w : World} {Q : Nat} {S : ByteArray} {b : Bool}
end

/-- The program's Reader lies as RdAt says, in the block R alone; its calls are the document's. -/
structure RdC (RdAt : World → Nat → ByteArray → Bool → Prop) : Prop where
  low : ∀ {w : World} {R : Nat} {s : ByteArray} {b : Bool}, RdAt w R s b → R < w.heap.size
  only : ∀ {w w' : World} {R Q : Nat} {s : ByteArray} {b : Bool}, RdAt w R s b → Only1 Q w w' → R ≠ Q → RdAt w' R s b
  new : ∀ (s : ByteArray) (w : World), s.size ≤ 1000000 → Calls Tryz.prog 18 #[.string s] w fun e w' => ∃ R, e = .returned (.pointer (some ⟨R, 0, none⟩)) ∧ w.heap.size ≤ R ∧ RdAt w' R s false ∧ Below w.heap.size w w'
  int : ∀ {w : World} {R : Nat} {s : ByteArray} {b : Bool}, RdAt w R s b → ∀ (lo hi : Int) (r : Option (Int × List UInt8)), Takes (bl s) lo hi r → s.size ≤ 1000000 →
    Calls Tryz.prog 52 #[.pointer (some ⟨R, 0, none⟩), .int .i64 lo, .int .i64 hi] w fun e w' => e = .returned (.int .i64 (iV b r)) ∧ RdAt w' R (iS s b r) (iB b r) ∧ Only1 R w w'
  text : ∀ {w : World} {R : Nat} {s : ByteArray} {b : Bool}, RdAt w R s b → ∀ (most : Int) (r : Option (Int × List UInt8)), Takes (bl s) 0 most r → s.size ≤ 1000000 →
    Calls Tryz.prog 50 #[.pointer (some ⟨R, 0, none⟩), .int .i64 most] w fun e w' => e = .returned (.string (tV b r)) ∧ RdAt w' R (tS s b r) (tB b r) ∧ Only1 R w w'
  label : ∀ {w : World} {R : Nat} {s : ByteArray} {b : Bool}, RdAt w R s b → ∀ (r q : Option (Int × List UInt8)), Takes (bl s) 0 7 r → Takes (bl (iS s b r)) 0 65535 q → s.size ≤ 1000000 →
    Calls Tryz.prog 92 #[.pointer (some ⟨R, 0, none⟩)] w fun e w' => e = .returned (.agg #[.int .i64 (if iB (iB b r) q then 0 else iV b r), .int .u16 (if iB (iB b r) q then 0 else iV (iB b r) q)]) ∧ RdAt w' R (iS (iS s b r) (iB b r) q) (iB (iB b r) q) ∧ Only1 R w w'
  ok : ∀ {w : World} {R : Nat} {s : ByteArray} {b : Bool}, RdAt w R s b → Calls Tryz.prog 20 #[.pointer (some ⟨R, 0, none⟩)] w fun e w' => e = .returned (.bool (!b)) ∧ Below w.heap.size w w'
  done : ∀ {w : World} {R : Nat} {s : ByteArray} {b : Bool}, RdAt w R s b → Calls Tryz.prog 178 #[.pointer (some ⟨R, 0, none⟩)] w fun e w' => e = .returned (.bool (!b && s.toList == [])) ∧ Below w.heap.size w w'
end Go.Proofs.YtfjaibaidpbppaaGreatDoor

namespace Go.Proofs.YtfjaibaidpbppaaGreatDoor
open Go.RowKit

/-- The program's Reader: what is left, and whether something was wrong. -/
def RdAt (w : World) (R : Nat) (s : ByteArray) (b : Bool) : Prop := w.heap[R]? = some (.cells #[.string s, .bool b] 93 (0, 0))
section
variable {w : World} {R : Nat} {s : ByteArray} {b : Bool}
theorem RdAt.low (h : RdAt w R s b) : R < w.heap.size := (Array.getElem?_eq_some_iff.1 h).1
theorem RdAt.only {w' : World} {Q : Nat} (h : RdAt w R s b) (ho : Only1 Q w w') (hn : R ≠ Q) : RdAt w' R s b := by
  have h' : w.heap[R]? = some (.cells #[.string s, .bool b] 93 (0, 0)) := h
  show w'.heap[R]? = _
  rw [ho.block R (Array.getElem?_eq_some_iff.1 h').1 hn]
  exact h'
theorem RdAt.below {w' : World} (h : RdAt w R s b) (hb : Below w.heap.size w w') : RdAt w' R s b := by
  show w'.heap[R]? = _
  rw [hb.block R h.low]
  exact h

set_option maxHeartbeats 1000000 in
set_option maxRecDepth 100000 in
theorem new_is (s : ByteArray) (w : World) : Calls Tryz.prog 18 #[.string s] w fun e w' => ∃ R, e = .returned (.pointer (some ⟨R, 0, none⟩)) ∧ w.heap.size ≤ R ∧ RdAt w' R s false ∧ Below w.heap.size w w' := by
  go_enter Tryz.func18, Tryz.ntmps18
  go_wp2_with fail
  go_ret
  exact ⟨w.heap.size, rfl, Nat.le_refl _, made_at w _, (Below.refl _ _).alloc (Nat.le_refl _) _⟩

set_option maxHeartbeats 1000000 in
set_option maxRecDepth 100000 in
theorem ok_is (h : RdAt w R s b) : Calls Tryz.prog 20 #[.pointer (some ⟨R, 0, none⟩)] w fun e w' => e = .returned (.bool (!b)) ∧ w = w' := by
  have z1 := cellH h 1
  simp at z1
  clear h
  go_enter Tryz.func20, Tryz.ntmps20
  go_wp2_with fail
  go_ret
  exact ⟨rfl, rfl⟩

theorem set_wrong (h : RdAt w R s b) : RdAt (w.setCell ⟨R, 1, none⟩ (.bool true)) R s true := by
  show _ = _
  rw [row_set h]; rfl
theorem set_left (h : RdAt w R s b) (t : ByteArray) : RdAt (w.setCell ⟨R, 0, none⟩ (.string t)) R t b := by
  show _ = _
  rw [row_set h]; rfl
set_option maxHeartbeats 1000000 in
set_option maxRecDepth 100000 in
theorem int_bad (h : RdAt w R s true) (lo hi : Int) :
    Calls Tryz.prog 52 #[.pointer (some ⟨R, 0, none⟩), .int .i64 lo, .int .i64 hi] w fun e w' => e = .returned (.int .i64 0) ∧ RdAt w' R s true ∧ Only1 R w w' := by
  have HO := Lib.hid (ok_is h)
  have HH := Lib.hid h
  clear h
  go_enter Tryz.func52, Tryz.ntmps52
  go_wp2_with fail
  refine HO.out.mono ?_
  rintro e w1 ⟨rfl, rfl⟩
  clear HO
  go_wp2_with fail
  go_ret
  exact ⟨rfl, HH.out, Only1.of_below (Below.refl _ _)⟩
set_option maxHeartbeats 1000000 in
set_option maxRecDepth 100000 in
theorem int_uncut (h : RdAt w R s false) (hV : VarsAt w) (hS : s.size ≤ 1000000000) (lo hi : Int) (hi1 : Lib.indexByte (bl s) 44 = -1) :
    Calls Tryz.prog 52 #[.pointer (some ⟨R, 0, none⟩), .int .i64 lo, .int .i64 hi] w fun e w' => e = .returned (.int .i64 0) ∧ RdAt w' R s true ∧ Only1 R w w' := by
  have HO := Lib.hid (ok_is h)
  have HC := Lib.hid (cut_none w s hi1)
  have HH := Lib.hid h
  have HV := Lib.hid hV
  have z0 := cellH h 0
  simp at z0
  clear h hV hi1
  go_enter Tryz.func52, Tryz.ntmps52
  go_wp2_with fail
  refine HO.out.mono ?_
  rintro e w1 ⟨rfl, rfl⟩
  go_wp2_with fail
  refine HC.out.mono ?_
  rintro e w1 ⟨rfl, hb1⟩
  have HB1 := Lib.hid hb1
  have HV1 := Lib.hid (HV.out.later hb1)
  have HH1 := Lib.hid (HH.out.below hb1)
  clear hb1 HO HC HV HH z0
  go_wp2_with fail
  by_cases hy : ∃ v, Lib.atoiAll (bl s) = .ok v
  · obtain ⟨v, hv⟩ := hy
    refine (atoi_yes w1 s hS v hv).mono ?_
    rintro e w2 ⟨rfl, hb2⟩
    have HB2 := Lib.hid (below_step HB1.out hb2)
    have HH2 := Lib.hid (HH1.out.below hb2)
    have zf := freeH HH2.out
    have z1 := cellH HH2.out 1
    simp at z1
    clear hb2 hv HB1 HV1 HH1
    go_wp2_with fail
    go_ret
    exact ⟨rfl, set_wrong HH2.out, (Only1.of_below HB2.out).trans (Only1.set _)⟩
  · refine (atoi_no HV1.out s hS (fun v hv => hy ⟨v, hv⟩)).mono ?_
    rintro e w2 ⟨v, tp, p, rfl, hb2⟩
    have HB2 := Lib.hid (below_step HB1.out hb2)
    have HH2 := Lib.hid (HH1.out.below hb2)
    have zf := freeH HH2.out
    have z1 := cellH HH2.out 1
    simp at z1
    clear hb2 hy HB1 HV1 HH1
    go_wp2_with fail
    go_ret
    exact ⟨rfl, set_wrong HH2.out, (Only1.of_below HB2.out).trans (Only1.set _)⟩
set_option maxHeartbeats 2000000 in
set_option maxRecDepth 100000 in
theorem int_none (h : RdAt w R s false) (hV : VarsAt w) (hS : s.size ≤ 1000000000) (lo hi : Int) (o : Nat) (ho : Lib.indexByte (bl s) 44 = o) (hno : ∀ v, Lib.atoiAll ((bl s).take o) ≠ .ok v) :
    Calls Tryz.prog 52 #[.pointer (some ⟨R, 0, none⟩), .int .i64 lo, .int .i64 hi] w fun e w' => e = .returned (.int .i64 0) ∧ RdAt w' R s true ∧ Only1 R w w' := by
  have HO := Lib.hid (ok_is h)
  have HC := Lib.hid (cut_some w s hS o ho)
  have HH := Lib.hid h
  have HV := Lib.hid hV
  have z0 := cellH h 0
  simp at z0
  have hos := size_cut ho
  have htk : bl (s.extract 0 o) = (bl s).take o := by rw [bl_extract, List.drop_zero]
  have hpz : (s.extract 0 o).size ≤ 1000000000 := by rw [ByteArray.size_extract]; omega
  clear h hV ho
  go_enter Tryz.func52, Tryz.ntmps52
  go_wp2_with fail
  refine HO.out.mono ?_
  rintro e w1 ⟨rfl, rfl⟩
  go_wp2_with fail
  refine HC.out.mono ?_
  rintro e w1 ⟨rfl, hb1⟩
  have HB1 := Lib.hid hb1
  have HV1 := Lib.hid (HV.out.later hb1)
  have HH1 := Lib.hid (HH.out.below hb1)
  clear hb1 HO HC HV HH z0
  generalize s.extract 0 o = d at *
  generalize s.extract (o + 1) s.size = t at *
  go_wp2_with fail
  refine (atoi_no HV1.out d hpz (by rw [htk]; exact hno)).mono ?_
  rintro e w2 ⟨v, tp, p, rfl, hb2⟩
  clear hno htk
  have HB2 := Lib.hid (below_step HB1.out hb2)
  have HH2 := Lib.hid (HH1.out.below hb2)
  have HV2 := Lib.hid (HV1.out.later hb2)
  clear hb2 HB1 HV1 HH1
  have zf := freeH HH2.out
  have z1 := cellH HH2.out 1
  have z0 := cellH HH2.out 0
  simp at z1 z0
  go_wp2_with fail
  go_ret
  exact ⟨rfl, set_wrong HH2.out, (Only1.of_below HB2.out).trans (Only1.set _)⟩
set_option maxHeartbeats 2000000 in
set_option maxRecDepth 100000 in
theorem int_other (h : RdAt w R s false) (hV : VarsAt w) (hS : s.size ≤ 1000000000) (lo hi : Int) (o : Nat) (ho : Lib.indexByte (bl s) 44 = o) (n : Int) (hn : Lib.atoiAll ((bl s).take o) = .ok n) (hne : (bl s).take o ≠ headT n) :
    Calls Tryz.prog 52 #[.pointer (some ⟨R, 0, none⟩), .int .i64 lo, .int .i64 hi] w fun e w' => e = .returned (.int .i64 0) ∧ RdAt w' R s true ∧ Only1 R w w' := by
  have HO := Lib.hid (ok_is h)
  have HC := Lib.hid (cut_some w s hS o ho)
  have HH := Lib.hid h
  have HV := Lib.hid hV
  have z0 := cellH h 0
  simp at z0
  have hos := size_cut ho
  have htk : bl (s.extract 0 o) = (bl s).take o := by rw [bl_extract, List.drop_zero]
  have hpz : (s.extract 0 o).size ≤ 1000000000 := by rw [ByteArray.size_extract]; omega
  clear h hV ho
  go_enter Tryz.func52, Tryz.ntmps52
  go_wp2_with fail
  refine HO.out.mono ?_
  rintro e w1 ⟨rfl, rfl⟩
  go_wp2_with fail
  refine HC.out.mono ?_
  rintro e w1 ⟨rfl, hb1⟩
  have HB1 := Lib.hid hb1
  have HV1 := Lib.hid (HV.out.later hb1)
  have HH1 := Lib.hid (HH.out.below hb1)
  clear hb1 HO HC HV HH z0
  generalize s.extract 0 o = d at *
  generalize s.extract (o + 1) s.size = t at *
  go_wp2_with fail
  have hbd := Lib.atoiAll_bounds hn
  refine (atoi_yes w1 d hpz n (by rw [htk]; exact hn)).mono ?_
  rintro e w2 ⟨rfl, hb2⟩
  have HB2 := Lib.hid (below_step HB1.out hb2)
  have HH2 := Lib.hid (HH1.out.below hb2)
  have HV2 := Lib.hid (HV1.out.later hb2)
  clear hb2 HB1 HV1 HH1
  go_wp2_with fail
  refine (itoa_is HV2.out n hbd.1 hbd.2).mono ?_
  rintro e w3 ⟨rfl, hb3⟩
  have HB3 := Lib.hid (below_step HB2.out hb3)
  have HH3 := Lib.hid (HH2.out.below hb3)
  have zf := freeH HH3.out
  have z1 := cellH HH3.out 1
  have z0 := cellH HH3.out 0
  simp at z1 z0
  clear hb3 HB2 HV2 HH2 hn
  have hq : ((ofL (headT n)).toList == d.toList) = false := by
    rw [ba_beq]
    refine decide_eq_false fun e => hne ?_
    rw [← htk, ← e, bl_ofL]
  have hq2 : ((ofL (headT n)).toList != d.toList) = true := by rw [bne, hq]; rfl
  clear hne htk
  generalize ofL (headT n) = x at *
  go_wp2_with fail
  go_ret
  exact ⟨rfl, set_wrong HH3.out, (Only1.of_below HB3.out).trans (Only1.set _)⟩
set_option maxHeartbeats 2000000 in
set_option maxRecDepth 100000 in
theorem int_low (h : RdAt w R s false) (hV : VarsAt w) (hS : s.size ≤ 1000000000) (lo hi : Int) (o : Nat) (ho : Lib.indexByte (bl s) 44 = o) (n : Int) (hn : Lib.atoiAll ((bl s).take o) = .ok n) (he : (bl s).take o = headT n) (hl : n < lo) :
    Calls Tryz.prog 52 #[.pointer (some ⟨R, 0, none⟩), .int .i64 lo, .int .i64 hi] w fun e w' => e = .returned (.int .i64 0) ∧ RdAt w' R s true ∧ Only1 R w w' := by
  have HO := Lib.hid (ok_is h)
  have HC := Lib.hid (cut_some w s hS o ho)
  have HH := Lib.hid h
  have HV := Lib.hid hV
  have z0 := cellH h 0
  simp at z0
  have hos := size_cut ho
  have htk : bl (s.extract 0 o) = (bl s).take o := by rw [bl_extract, List.drop_zero]
  have hpz : (s.extract 0 o).size ≤ 1000000000 := by rw [ByteArray.size_extract]; omega
  clear h hV ho
  go_enter Tryz.func52, Tryz.ntmps52
  go_wp2_with fail
  refine HO.out.mono ?_
  rintro e w1 ⟨rfl, rfl⟩
  go_wp2_with fail
  refine HC.out.mono ?_
  rintro e w1 ⟨rfl, hb1⟩
  have HB1 := Lib.hid hb1
  have HV1 := Lib.hid (HV.out.later hb1)
  have HH1 := Lib.hid (HH.out.below hb1)
  clear hb1 HO HC HV HH z0
  generalize s.extract 0 o = d at *
  generalize s.extract (o + 1) s.size = t at *
  go_wp2_with fail
  have hbd := Lib.atoiAll_bounds hn
  refine (atoi_yes w1 d hpz n (by rw [htk]; exact hn)).mono ?_
  rintro e w2 ⟨rfl, hb2⟩
  have HB2 := Lib.hid (below_step HB1.out hb2)
  have HH2 := Lib.hid (HH1.out.below hb2)
  have HV2 := Lib.hid (HV1.out.later hb2)
  clear hb2 HB1 HV1 HH1
  go_wp2_with fail
  refine (itoa_is HV2.out n hbd.1 hbd.2).mono ?_
  rintro e w3 ⟨rfl, hb3⟩
  have HB3 := Lib.hid (below_step HB2.out hb3)
  have HH3 := Lib.hid (HH2.out.below hb3)
  have zf := freeH HH3.out
  have z1 := cellH HH3.out 1
  have z0 := cellH HH3.out 0
  simp at z1 z0
  clear hb3 HB2 HV2 HH2 hn
  have hd : ofL (headT n) = d := by apply bl_inj; rw [bl_ofL, htk, he]
  rw [hd]
  have hq2 : (d.toList != d.toList) = false := by simp
  clear he htk hd
  go_wp2_with fail
  go_ret
  exact ⟨rfl, set_wrong HH3.out, (Only1.of_below HB3.out).trans (Only1.set _)⟩
set_option maxHeartbeats 2000000 in
set_option maxRecDepth 100000 in
theorem int_high (h : RdAt w R s false) (hV : VarsAt w) (hS : s.size ≤ 1000000000) (lo hi : Int) (o : Nat) (ho : Lib.indexByte (bl s) 44 = o) (n : Int) (hn : Lib.atoiAll ((bl s).take o) = .ok n) (he : (bl s).take o = headT n) (hl : ¬ n < lo) (hh : hi < n) :
    Calls Tryz.prog 52 #[.pointer (some ⟨R, 0, none⟩), .int .i64 lo, .int .i64 hi] w fun e w' => e = .returned (.int .i64 0) ∧ RdAt w' R s true ∧ Only1 R w w' := by
  have HO := Lib.hid (ok_is h)
  have HC := Lib.hid (cut_some w s hS o ho)
  have HH := Lib.hid h
  have HV := Lib.hid hV
  have z0 := cellH h 0
  simp at z0
  have hos := size_cut ho
  have htk : bl (s.extract 0 o) = (bl s).take o := by rw [bl_extract, List.drop_zero]
  have hpz : (s.extract 0 o).size ≤ 1000000000 := by rw [ByteArray.size_extract]; omega
  clear h hV ho
  go_enter Tryz.func52, Tryz.ntmps52
  go_wp2_with fail
  refine HO.out.mono ?_
  rintro e w1 ⟨rfl, rfl⟩
  go_wp2_with fail
  refine HC.out.mono ?_
  rintro e w1 ⟨rfl, hb1⟩
  have HB1 := Lib.hid hb1
  have HV1 := Lib.hid (HV.out.later hb1)
  have HH1 := Lib.hid (HH.out.below hb1)
  clear hb1 HO HC HV HH z0
  generalize s.extract 0 o = d at *
  generalize s.extract (o + 1) s.size = t at *
  go_wp2_with fail
  have hbd := Lib.atoiAll_bounds hn
  refine (atoi_yes w1 d hpz n (by rw [htk]; exact hn)).mono ?_
  rintro e w2 ⟨rfl, hb2⟩
  have HB2 := Lib.hid (below_step HB1.out hb2)
  have HH2 := Lib.hid (HH1.out.below hb2)
  have HV2 := Lib.hid (HV1.out.later hb2)
  clear hb2 HB1 HV1 HH1
  go_wp2_with fail
  refine (itoa_is HV2.out n hbd.1 hbd.2).mono ?_
  rintro e w3 ⟨rfl, hb3⟩
  have HB3 := Lib.hid (below_step HB2.out hb3)
  have HH3 := Lib.hid (HH2.out.below hb3)
  have zf := freeH HH3.out
  have z1 := cellH HH3.out 1
  have z0 := cellH HH3.out 0
  simp at z1 z0
  clear hb3 HB2 HV2 HH2 hn
  have hd : ofL (headT n) = d := by apply bl_inj; rw [bl_ofL, htk, he]
  rw [hd]
  have hq2 : (d.toList != d.toList) = false := by simp
  clear he htk hd
  go_wp2_with fail
  go_ret
  exact ⟨rfl, set_wrong HH3.out, (Only1.of_below HB3.out).trans (Only1.set _)⟩
set_option maxHeartbeats 2000000 in
set_option maxRecDepth 100000 in
theorem int_good (h : RdAt w R s false) (hV : VarsAt w) (hS : s.size ≤ 1000000000) (lo hi : Int) (o : Nat) (ho : Lib.indexByte (bl s) 44 = o) (n : Int) (hn : Lib.atoiAll ((bl s).take o) = .ok n) (he : (bl s).take o = headT n) (hl : ¬ n < lo) (hh : ¬ hi < n) :
    Calls Tryz.prog 52 #[.pointer (some ⟨R, 0, none⟩), .int .i64 lo, .int .i64 hi] w fun e w' => e = .returned (.int .i64 n) ∧ RdAt w' R (s.extract (o + 1) s.size) false ∧ Only1 R w w' := by
  have HO := Lib.hid (ok_is h)
  have HC := Lib.hid (cut_some w s hS o ho)
  have HH := Lib.hid h
  have HV := Lib.hid hV
  have z0 := cellH h 0
  simp at z0
  have hos := size_cut ho
  have htk : bl (s.extract 0 o) = (bl s).take o := by rw [bl_extract, List.drop_zero]
  have hpz : (s.extract 0 o).size ≤ 1000000000 := by rw [ByteArray.size_extract]; omega
  clear h hV ho
  go_enter Tryz.func52, Tryz.ntmps52
  go_wp2_with fail
  refine HO.out.mono ?_
  rintro e w1 ⟨rfl, rfl⟩
  go_wp2_with fail
  refine HC.out.mono ?_
  rintro e w1 ⟨rfl, hb1⟩
  have HB1 := Lib.hid hb1
  have HV1 := Lib.hid (HV.out.later hb1)
  have HH1 := Lib.hid (HH.out.below hb1)
  clear hb1 HO HC HV HH z0
  generalize s.extract 0 o = d at *
  obtain ⟨t, ht⟩ : ∃ t, s.extract (o + 1) s.size = t := ⟨_, rfl⟩
  have HT := Lib.hid ht
  rw [ht]
  clear ht
  go_wp2_with fail
  have hbd := Lib.atoiAll_bounds hn
  refine (atoi_yes w1 d hpz n (by rw [htk]; exact hn)).mono ?_
  rintro e w2 ⟨rfl, hb2⟩
  have HB2 := Lib.hid (below_step HB1.out hb2)
  have HH2 := Lib.hid (HH1.out.below hb2)
  have HV2 := Lib.hid (HV1.out.later hb2)
  clear hb2 HB1 HV1 HH1
  go_wp2_with fail
  refine (itoa_is HV2.out n hbd.1 hbd.2).mono ?_
  rintro e w3 ⟨rfl, hb3⟩
  have HB3 := Lib.hid (below_step HB2.out hb3)
  have HH3 := Lib.hid (HH2.out.below hb3)
  have zf := freeH HH3.out
  have z1 := cellH HH3.out 1
  have z0 := cellH HH3.out 0
  simp at z1 z0
  clear hb3 HB2 HV2 HH2 hn
  have hd : ofL (headT n) = d := by apply bl_inj; rw [bl_ofL, htk, he]
  rw [hd]
  have hq2 : (d.toList != d.toList) = false := by simp
  clear he htk hd
  go_wp2_with fail
  go_ret
  exact ⟨rfl, by rw [HT.out]; exact set_left HH3.out t, (Only1.of_below HB3.out).trans (Only1.set _)⟩
theorem extract_tail (s : ByteArray) (o : Nat) : s.extract (o + 1) s.size = ofL ((bl s).drop (o + 1)) := by
  apply bl_inj
  rw [bl_extract, bl_ofL, ← bl_len, List.take_length]
/-- What the program's Int answers and leaves, of a Reader that has met nothing wrong. -/
theorem int_is (h : RdAt w R s b) (hV : VarsAt w) (lo hi : Int) (r : Option (Int × List UInt8)) (hr : Takes (bl s) lo hi r) (hS : s.size ≤ 1000000000) :
    Calls Tryz.prog 52 #[.pointer (some ⟨R, 0, none⟩), .int .i64 lo, .int .i64 hi] w fun e w' => e = .returned (.int .i64 (iV b r)) ∧ RdAt w' R (iS s b r) (iB b r) ∧ Only1 R w w' := by
  cases b with
  | true => exact int_bad h lo hi
  | false =>
    by_cases hc : Lib.indexByte (bl s) 44 = -1
    · rw [takes_uncut hc hr]; exact int_uncut h hV hS lo hi hc
    · obtain ⟨o, ho⟩ := index_nat hc
      have none_ : (¬ ∃ n, Lib.atoiAll ((bl s).take o) = .ok n ∧ (bl s).take o = headT n ∧ lo ≤ n ∧ n ≤ hi) → r = none := takes_not ho hr
      by_cases hn : ∃ n, Lib.atoiAll ((bl s).take o) = .ok n
      · obtain ⟨n, hn⟩ := hn
        have same : ∀ m, Lib.atoiAll ((bl s).take o) = .ok m → m = n := fun m hm => by rw [hn] at hm; injection hm with hm; exact hm.symm
        by_cases he : (bl s).take o = headT n
        · by_cases hl : n < lo
          · rw [none_ fun ⟨m, h1, _, h3, _⟩ => by rw [same m h1] at h3; omega]
            exact int_low h hV hS lo hi o ho n hn he hl
          · by_cases hh : hi < n
            · rw [none_ fun ⟨m, h1, _, _, h4⟩ => by rw [same m h1] at h4; omega]
              exact int_high h hV hS lo hi o ho n hn he hl hh
            · rw [takes_num ho hr hn he (by omega) (by omega)]
              refine (int_good h hV hS lo hi o ho n hn he hl hh).mono fun e w' g => ?_
              rw [extract_tail] at g
              exact g
        · rw [none_ fun ⟨m, h1, h2, _⟩ => he (by rw [h2, same m h1])]
          exact int_other h hV hS lo hi o ho n hn he
      · rw [none_ fun ⟨m, h1, _⟩ => hn ⟨m, h1⟩]
        exact int_none h hV hS lo hi o ho fun v hv => hn ⟨v, hv⟩
end
end Go.Proofs.YtfjaibaidpbppaaGreatDoor
