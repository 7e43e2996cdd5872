/-
  Runs read, in words that compose: a text, a label, a task, a place; what is written byte by byte. Conditions: what the library's variables hold. The program's run: a task read. Conditions: what the library's variables hold, a text's length.
-/
import Derived.Test.YtfjaibaidpbppaaGreatDoorRuP
import Derived.Test.YtfjaibaidpbppaaGreatDoorRuA
namespace Go.Proofs.YtfjaibaidpbppaaGreatDoor
open Go.RowKit

theorem Rd1.hit {S S' : ByteArray} {b b' : Bool} {lo hi v n : Int} {X : List UInt8} (h : Rd1 S b lo hi v S' b') (hb : b = false) (h0 : lo ≤ n) (h1 : n ≤ hi) (h2 : -9223372036854775808 ≤ n) (h3 : n ≤ 9223372036854775807) (hS : bl S = numT n ++ X) : b' = false ∧ v = n ∧ bl S' = X := by
  have hS2 : S = numX n ++ ofL X := numX_front hS (bl_ofL _).symm
  have hb' := h.full n _ hb h0 h1 h2 h3 hS2
  obtain ⟨e1, e2⟩ := h.same hb' hS2
  exact ⟨hb', e1, by rw [e2, bl_ofL]⟩
/-- A text of most bytes is read of S: s, and S' is left; or it stops (b'). -/
structure RdT (S : ByteArray) (b : Bool) (most : Int) (s S' : ByteArray) (b' : Bool) : Prop where
  bad : b' = true → s = .empty
  yes : b' = false → b = false ∧ (s.size : Int) ≤ most ∧ bl S = numT (s.size : Int) ++ (bl s ++ bl S')
  hit : ∀ (u : ByteArray) (X : List UInt8), b = false → (u.size : Int) ≤ most → u.size ≤ 1000000 → bl S = numT (u.size : Int) ++ (bl u ++ X) → b' = false ∧ s = u ∧ bl S' = X
  size : S'.size ≤ S.size
theorem size_of_bl {s : ByteArray} {l : List UInt8} (h : bl s = l) : s.size = l.length := by rw [← h, bl_len]
theorem rdT_of {S : ByteArray} {b : Bool} {most : Int} {r : Option (Int × List UInt8)} (hr : Takes (bl S) 0 most r) : RdT S b most (tV b r) (tS S b r) (tB b r) := by
  cases b with
  | true => exact ⟨fun _ => rfl, (fun h => by cases h), (fun u X h => by cases h), Nat.le_refl _⟩
  | false =>
    rcases hr with ⟨n, x, a1, a2, a3, a4, a5, rfl⟩ | ⟨hno, rfl⟩
    · have hxl : x.length ≤ S.size := by
        have := congrArg List.length a3
        rw [bl_len, List.length_append] at this
        omega
      by_cases hx : (x.length : Int) < n
      · have e1 : tV false (some (n, x)) = .empty := by show (if (x.length : Int) < n then ByteArray.empty else ofL (x.take n.toNat)) = _; rw [if_pos hx]
        have e2 : tS S false (some (n, x)) = ofL x := by show (if (x.length : Int) < n then ofL x else ofL (x.drop n.toNat)) = _; rw [if_pos hx]
        have e3 : tB false (some (n, x)) = true := by show (false || decide _) = _; rw [decide_eq_true hx]; rfl
        rw [e1, e2, e3]
        refine ⟨fun _ => rfl, (fun h => by cases h), fun u X _ hu hu2 hS => ?_, by rw [← bl_len, bl_ofL]; exact hxl⟩
        exfalso
        rw [a3] at hS
        obtain ⟨e4, e5⟩ := numT_front hS
        rw [e5, List.length_append, bl_len] at hx
        omega
      · have e1 : tV false (some (n, x)) = ofL (x.take n.toNat) := by show (if (x.length : Int) < n then ByteArray.empty else ofL (x.take n.toNat)) = _; rw [if_neg hx]
        have e2 : tS S false (some (n, x)) = ofL (x.drop n.toNat) := by show (if (x.length : Int) < n then ofL x else ofL (x.drop n.toNat)) = _; rw [if_neg hx]
        have e3 : tB false (some (n, x)) = false := by show (false || decide _) = _; rw [decide_eq_false hx]; rfl
        have hsz : (ofL (x.take n.toNat)).size = n.toNat := by rw [← bl_len, bl_ofL, List.length_take]; omega
        rw [e1, e2, e3]
        refine ⟨(fun h => by cases h), fun _ => ⟨rfl, by rw [hsz]; omega, ?_⟩, fun u X _ hu hu2 hS => ?_, by rw [← bl_len, bl_ofL, List.length_drop]; omega⟩
        · rw [hsz, bl_ofL, bl_ofL, List.take_append_drop, show ((n.toNat : Nat) : Int) = n by omega]
          exact a3
        · rw [a3] at hS
          obtain ⟨e4, e5⟩ := numT_front hS
          have hn : n.toNat = (bl u).length := by rw [bl_len]; omega
          refine ⟨rfl, ?_, ?_⟩
          · apply bl_inj
            rw [bl_ofL, e5, hn, List.take_left]
          · rw [bl_ofL, e5, hn, List.drop_left]
    · have e3 : tB false (none : Option (Int × List UInt8)) = true := rfl
      rw [e3]
      refine ⟨fun _ => rfl, (fun h => by cases h), fun u X _ hu hu2 hS => ?_, Nat.le_refl _⟩
      exact absurd ⟨(u.size : Int), _, by omega, by omega, hS, by omega, hu⟩ hno
theorem text_stepR {w : World} {R : Nat} {S : ByteArray} {b : Bool} (h : RdAt w R S b) (hV : VarsAt w) (hS : S.size ≤ 1000000) (most : Int) :
    Calls Tryz.prog 50 #[.pointer (some ⟨R, 0, none⟩), .int .i64 most] w fun e w' => ∃ s S' b', e = .returned (.string s) ∧ RdAt w' R S' b' ∧ Only1 R w w' ∧ RdT S b most s S' b' := by
  obtain ⟨r, hr⟩ := takes_some (bl S) 0 most
  refine (text_is h hV most r hr (by omega)).mono ?_
  rintro e w' ⟨rfl, h1, h2⟩
  exact ⟨_, _, _, rfl, h1, h2, rdT_of hr⟩
/-- A label is read. -/
structure RdL (S : ByteArray) (b : Bool) (lv st : Int) (S' : ByteArray) (b' : Bool) : Prop where
  few : 0 ≤ lv ∧ lv ≤ 7 ∧ 0 ≤ st ∧ st ≤ 65535
  yes : b' = false → b = false ∧ bl S = numT lv ++ (numT st ++ bl S')
  hit : ∀ (x y : Int) (X : List UInt8), b = false → 0 ≤ x → x ≤ 7 → 0 ≤ y → y ≤ 65535 → bl S = numT x ++ (numT y ++ X) → b' = false ∧ lv = x ∧ st = y ∧ bl S' = X
  size : S'.size ≤ S.size
theorem bl_num {S S' : ByteArray} {n : Int} (h : S = numX n ++ S') : bl S = numT n ++ bl S' := by rw [h, bl_append, bl_numX]
theorem label_step {w : World} {R : Nat} {S : ByteArray} {b : Bool} (h : RdAt w R S b) (hV : VarsAt w) (hS : S.size ≤ 1000000) :
    Calls Tryz.prog 92 #[.pointer (some ⟨R, 0, none⟩)] w fun e w' => ∃ lv st S' b', e = .returned (.agg #[.int .i64 lv, .int .u16 st]) ∧ RdAt w' R S' b' ∧ Only1 R w w' ∧ RdL S b lv st S' b' := by
  obtain ⟨r, hr⟩ := takes_some (bl S) 0 7
  obtain ⟨q, hq⟩ := takes_some (bl (iS S b r)) 0 65535
  refine (label_is h hV r q hr hq (by omega)).mono ?_
  rintro e w' ⟨rfl, h1, h2⟩
  have d1 := rd1_of (b := b) hr
  have d2 := rd1_of (b := iB b r) hq
  refine ⟨_, _, _, _, rfl, h1, h2, ?_, fun hb => ?_, fun x y X hb hx0 hx1 hy0 hy1 hS2 => ?_, Nat.le_trans d2.size d1.size⟩
  · cases hb : iB (iB b r) q with
    | true => simp
    | false =>
      have g2 := d2.yes hb
      have g1 := d1.yes g2.1
      simp only [Bool.false_eq_true, if_false]
      exact ⟨g1.2.1, g1.2.2.1, g2.2.1, g2.2.2.1⟩
  · have g2 := d2.yes hb
    have g1 := d1.yes g2.1
    rw [hb]
    simp only [Bool.false_eq_true, if_false]
    exact ⟨g1.1, by rw [bl_num g1.2.2.2, bl_num g2.2.2.2]⟩
  · obtain ⟨a1, a2, a3⟩ := d1.hit hb hx0 hx1 (by omega) (by omega) hS2
    obtain ⟨c1, c2, c3⟩ := d2.hit a1 hy0 hy1 (by omega) (by omega) a3
    rw [c1]
    simp only [Bool.false_eq_true, if_false]
    exact ⟨by first | rfl | trivial, a2, c2, c3⟩
/-! What is written, byte by byte. -/
def tailB (t : TkP) : List UInt8 := numT t.retry ++ (numT t.time ++ (numT t.need ++ (numT t.lv ++ numT t.st)))
def natsB (l : List Nat) : List UInt8 := l.flatMap fun a : Nat => numT (a : Int)
def tkB (t : TkP) : List UInt8 := numT (t.name.size : Int) ++ (bl t.name ++ (numT (t.after.length : Int) ++ (natsB t.after ++ tailB t)))
def triB (t : TrP) : List UInt8 := numT t.st ++ (numT t.sn ++ (numT t.ms ++ (numT t.wk ++ (numT t.ls ++ numT t.un))))
def plB (p : PlP) : List UInt8 := triB p.tr ++ (numT (p.out.size : Int) ++ (bl p.out ++ (numT (p.yes.length : Int) ++ (p.yes.flatMap numT ++ numT (bitI p.no)))))
def runB (z : RunP) : List UInt8 := numT (z.pn.size : Int) ++ (bl z.pn ++ (numT (z.ts.length : Int) ++ (z.ts.flatMap tkB ++ (z.ps.flatMap plB ++ numT (bitI z.over)))))
theorem txts_bl (T s : ByteArray) : bl (txtsX T [s]) = bl T ++ (numT (s.size : Int) ++ bl s) := by
  show bl (T ++ (numX s.size ++ s)) = _
  rw [bl_append, bl_append, bl_numX]
theorem bl_wTask (T : ByteArray) (t : TkP) : bl (wTask T t) = bl T ++ tkB t := by
  unfold wTask tkB tailB natsB
  rw [intsX_bl, intsX_bl, intsX_bl, txts_bl]
  simp only [List.flatMap_cons, List.flatMap_nil, List.append_nil, List.append_assoc, List.flatMap_map]
  rfl
theorem bl_wPlace (T : ByteArray) (p : PlP) : bl (wPlace T p) = bl T ++ plB p := by
  unfold wPlace plB triB sixL votsL
  rw [intsX_bl, txts_bl, intsX_bl]
  simp only [List.flatMap_cons, List.flatMap_nil, List.append_nil, List.append_assoc, List.flatMap_append]
theorem fold_bl {α : Type} {f : ByteArray → α → ByteArray} {B : α → List UInt8} (h : ∀ T a, bl (f T a) = bl T ++ B a) : ∀ (l : List α) (T : ByteArray), bl (l.foldl f T) = bl T ++ l.flatMap B
  | [], T => (List.append_nil _).symm
  | a :: l, T => by rw [List.foldl_cons, fold_bl h l, h, List.flatMap_cons, List.append_assoc]
theorem bl_textR (z : RunP) : bl (textR z) = runB z := by
  unfold textR wRun runB
  rw [intsX_bl, fold_bl bl_wPlace, fold_bl bl_wTask, intsX_bl, txts_bl]
  simp only [List.flatMap_cons, List.flatMap_nil, List.append_nil, List.append_assoc]
  rfl
/-- What a task's numbers must be to be read. -/
structure TkFits (u : TkP) : Prop where
  name : u.name.size ≤ 8
  len : u.after.length ≤ 8
  aft : ∀ a ∈ u.after, a ≤ 7
  retry : 0 ≤ u.retry ∧ u.retry ≤ 5
  time : 1 ≤ u.time ∧ u.time ≤ 100
  need : 0 ≤ u.need ∧ u.need ≤ 4
  lab : 0 ≤ u.lv ∧ u.lv ≤ 7 ∧ 0 ≤ u.st ∧ u.st ≤ 65535
/-- A task is read. -/
structure TkR (S : ByteArray) (b : Bool) (t : TkP) (S' : ByteArray) (b' : Bool) : Prop where
  yes : b' = false → b = false ∧ bl S = tkB t ++ bl S'
  hit : ∀ u Y, b = false → TkFits u → bl S = tkB u ++ Y → b' = false ∧ t = u ∧ bl S' = Y
  few : t.after.length ≤ 8 ∧ t.name.size ≤ 8 ∧ 0 ≤ t.st ∧ t.st ≤ 65535
  size : S'.size ≤ S.size
/-- While its After is read. -/
structure AfR (S : ByteArray) (b : Bool) (nm : ByteArray) (cnt : Int) (l : List Nat) (S' : ByteArray) (b' : Bool) : Prop where
  yes : b' = false → b = false ∧ bl S = numT (nm.size : Int) ++ (bl nm ++ (numT cnt ++ (natsB l ++ bl S')))
  hit : ∀ u Y, b = false → TkFits u → bl S = tkB u ++ Y → b' = false ∧ nm = u.name ∧ cnt = (u.after.length : Int) ∧ l = u.after.take l.length ∧ bl S' = natsB (u.after.drop l.length) ++ (tailB u ++ Y)
  cb : 0 ≤ cnt ∧ cnt ≤ 8
  nb : nm.size ≤ 8
  size : S'.size ≤ S.size
theorem AfR.start {S S1 S2 : ByteArray} {b b1 b2 : Bool} {nm : ByteArray} {cnt : Int} (h1 : RdT S b 8 nm S1 b1) (h2 : Rd1 S1 b1 0 8 cnt S2 b2) : AfR S b nm cnt [] S2 b2 := by
  refine ⟨fun hb => ?_, fun u Y hb hu hS => ?_, ?_, ?_, Nat.le_trans h2.size h1.size⟩
  · have g2 := h2.yes hb
    have g1 := h1.yes g2.1
    exact ⟨g1.1, by rw [g1.2.2, bl_num g2.2.2.2]; rfl⟩
  · unfold tkB at hS
    simp only [List.append_assoc] at hS
    obtain ⟨a1, a2, a3⟩ := h1.hit u.name _ hb (by have := hu.name; omega) (by have := hu.name; omega) hS
    obtain ⟨c1, c2, c3⟩ := h2.hit a1 (Int.natCast_nonneg _) (by have := hu.len; omega) (by omega) (by have := hu.len; omega) a3
    exact ⟨c1, a2, c2, rfl, by rw [c3]; simp only [List.length_nil, List.drop_zero]⟩
  · cases hb : b2 with
    | true => have := h2.bad hb; omega
    | false => have := h2.yes hb; omega
  · cases hb : b1 with
    | true => rw [h1.bad hb]; decide
    | false => have := (h1.yes hb).2.1; omega
theorem natsB_snoc (l : List Nat) (a : Nat) : natsB (l ++ [a]) = natsB l ++ numT (a : Int) := by
  unfold natsB
  simp
theorem AfR.next {S S' S2 : ByteArray} {b b' b2 : Bool} {nm : ByteArray} {cnt : Int} {l : List Nat} {a : Nat} (h : AfR S b nm cnt l S' b') (hl : (l.length : Int) < cnt) (hd : Rd1 S' b' 0 7 (a : Int) S2 b2) : AfR S b nm cnt (l ++ [a]) S2 b2 := by
  refine ⟨fun hb => ?_, fun u Y hb hu hS => ?_, h.cb, h.nb, Nat.le_trans hd.size h.size⟩
  · have g2 := hd.yes hb
    have g1 := h.yes g2.1
    refine ⟨g1.1, ?_⟩
    rw [g1.2, natsB_snoc, bl_num g2.2.2.2]
    simp only [List.append_assoc]
  · obtain ⟨e1, e2, e3, e4, e5⟩ := h.hit u Y hb hu hS
    have hlt : l.length < u.after.length := by omega
    have hx := List.getElem?_eq_getElem hlt
    rw [List.drop_eq_getElem_cons hlt] at e5
    unfold natsB at e5
    rw [List.flatMap_cons, List.append_assoc] at e5
    have hle := hu.aft _ (List.getElem_mem hlt)
    obtain ⟨c1, c2, c3⟩ := hd.hit e1 (Int.natCast_nonneg _) (by omega) (by omega) (by omega) e5
    have e6 : a = u.after[l.length] := by omega
    refine ⟨c1, e2, e3, ?_, ?_⟩
    · rw [List.length_append, List.length_singleton, List.take_add_one, hx, ← e4, e6]
      rfl
    · rw [List.length_append, List.length_singleton]
      exact c3
theorem AfR.last {S S0 S1 S2 S3 S4 : ByteArray} {b b0 b1 b2 b3 b4 : Bool} {nm : ByteArray} {cnt rt tm nd lv st : Int} {l : List Nat} (h : AfR S b nm cnt l S0 b0) (hl : (l.length : Int) = cnt) (h1 : Rd1 S0 b0 0 5 rt S1 b1) (h2 : Rd1 S1 b1 1 100 tm S2 b2) (h3 : Rd1 S2 b2 0 4 nd S3 b3) (h4 : RdL S3 b3 lv st S4 b4) :
    TkR S b ⟨nm, l, rt, tm, nd, lv, st⟩ S4 b4 := by
  refine ⟨fun hb => ?_, fun u Y hb hu hS => ?_, ⟨by have := h.cb; show l.length ≤ 8; omega, h.nb, h4.few.2.2⟩, Nat.le_trans h4.size (Nat.le_trans h3.size (Nat.le_trans h2.size (Nat.le_trans h1.size h.size)))⟩
  · have g4 := h4.yes hb
    have g3 := h3.yes g4.1
    have g2 := h2.yes g3.1
    have g1 := h1.yes g2.1
    have g0 := h.yes g1.1
    refine ⟨g0.1, ?_⟩
    unfold tkB tailB
    rw [g0.2, bl_num g1.2.2.2, bl_num g2.2.2.2, bl_num g3.2.2.2, g4.2, hl]
    simp only [List.append_assoc]
  · obtain ⟨e1, e2, e3, e4, e5⟩ := h.hit u Y hb hu hS
    have hll : l.length = u.after.length := by omega
    rw [hll, List.take_length] at e4
    rw [hll, List.drop_length] at e5
    have e5 : bl S0 = numT u.retry ++ (numT u.time ++ (numT u.need ++ (numT u.lv ++ (numT u.st ++ Y)))) := by
      rw [e5]
      unfold natsB tailB
      simp only [List.flatMap_nil, List.nil_append, List.append_assoc]
    have r1 := hu.retry
    have r2 := hu.time
    have r3 := hu.need
    obtain ⟨a1, a2, a3⟩ := h1.hit e1 r1.1 r1.2 (by omega) (by omega) e5
    obtain ⟨c1, c2, c3⟩ := h2.hit a1 r2.1 r2.2 (by omega) (by omega) a3
    obtain ⟨d1, d2, d3⟩ := h3.hit c1 r3.1 r3.2 (by omega) (by omega) c3
    obtain ⟨f1, f2, f3, f4⟩ := h4.hit _ _ _ d1 hu.lab.1 hu.lab.2.1 hu.lab.2.2.1 hu.lab.2.2.2 d3
    refine ⟨f1, ?_, f4⟩
    rw [e2, e4, a2, c2, d2, f2, f3]
end Go.Proofs.YtfjaibaidpbppaaGreatDoor

namespace Go.Proofs.YtfjaibaidpbppaaGreatDoor
open Go.RowKit

abbrev z7 : Array Value := #[.string ⟨#[]⟩, .slice none 0 0, .int .i64 0, .int .i64 0, .int .i64 0, .int .i64 0, .int .u16 0]
/-- What is held while a task is read: the result, the task so far. -/
structure RtS (w : World) (Q Tk : Nat) (S : ByteArray) (b : Bool) (nm : ByteArray) (v : Value) (l : List Nat) (rt tm nd : Int) (W : World) : Prop where
  od : Only1 Q w W
  rd : RdAt W Q S b
  lo : Q < w.heap.size
  v0 : VarsAt w
  r0 : ∃ S0 b0, RdAt w Q S0 b0
  rs : W.heap[w.heap.size]? = some (.cells z7 65 (0, 0))
  tk : W.heap[Tk]? = some (.cells #[.string nm, v, .int .i64 rt, .int .i64 tm, .int .i64 nd, .int .i64 0, .int .u16 0] 65 (0, 0))
  tlo : w.heap.size < Tk
  ow : W.ownsRow (Tk + 1) 3 1 v l.length (natV l)
section
variable {w W V : World} {Q Tk : Nat} {S S2 nm : ByteArray} {b b2 : Bool} {v v2 : Value} {l : List Nat} {rt tm nd : Int}
theorem RtS.only (h : RtS w Q Tk S b nm v l rt tm nd W) (hr : RdAt V Q S2 b2) (ho : Only1 Q W V) : RtS w Q Tk S2 b2 nm v l rt tm nd V := by
  have h1 := h.lo
  have h2 := h.tlo
  exact ⟨h.od.trans ho, hr, h1, h.v0, h.r0, ho.at h.rs (by omega), ho.at h.tk (by omega), h2, own_frame h.ow fun q cur hq hc => ho.block q (Array.getElem?_eq_some_iff.1 hc).1 (by omega)⟩
theorem RtS.ve (h : RtS w Q Tk S b nm v l rt tm nd W) : VarsAt W := by
  obtain ⟨_, _, hr⟩ := h.r0
  exact h.v0.rd hr h.od
theorem RtS.later (h : RtS w Q Tk S b nm v l rt tm nd W) (hb : Below W.heap.size W V) : RtS w Q Tk S b nm v l rt tm nd V := h.only (h.rd.below hb) (.of_below hb)
theorem RtS.set_rd {B i : Nat} {x : Value} (h : RtS w Q Tk S b nm v l rt tm nd W) (hB : B ≠ Q) : RdAt (W.setCell ⟨B, i, none⟩ x) Q S b := by
  show _ = _
  rw [set_other (fun e => hB e.symm)]
  exact h.rd
/-- One more behind. -/
theorem RtS.put {a : Nat} {V : World} (h : RtS w Q Tk S b nm v l rt tm nd W) (hown : V.ownsRow (Tk + 1) 3 1 v2 (l.length + 1) (natV l ++ [.int .i64 (a : Int)])) (hg : (W.alloc (.cells #[.int .i64 (a : Int)] 3)).grownBy V v.ownBlock) :
    V.heap[Tk]? = some (.cells #[.string nm, v, .int .i64 rt, .int .i64 tm, .int .i64 nd, .int .i64 0, .int .u16 0] 65 (0, 0)) ∧ RtS w Q Tk S b nm v2 (l ++ [a]) rt tm nd (V.setCell ⟨Tk, 1, none⟩ v2) := by
  have h1 := h.lo
  have h2 := h.tlo
  have hTk := (Array.getElem?_eq_some_iff.1 h.tk).1
  have hb : Below (Tk + 1) W V := ((Below.refl (Tk + 1) W).alloc (by omega) _).grown hg (by simp; omega) (fun q hq => (own_tag h.ow hq).1)
  have hk : ∀ q o, q < Tk + 1 → W.heap[q]? = some o → V.heap[q]? = some o := fun q o hq ho => by rw [hb.block q hq]; exact ho
  have hn2 := hk _ _ (Nat.lt_succ_self _) h.tk
  have hod : Only1 Q w (V.setCell ⟨Tk, 1, none⟩ v2) := Only1.setNew ⟨hb.os.trans h.od.os, hb.tape.trans h.od.tape, hb.output.trans h.od.output, Nat.le_trans h.od.size hb.size, fun i hi hn => (hb.block i (by omega)).trans (h.od.block i hi hn)⟩ (by omega) v2
  refine ⟨hn2, hod, ?_, h1, h.v0, h.r0, ?_, ?_, h2, ?_⟩
  · show _ = _
    rw [set_other (by omega)]
    exact hk _ _ (by omega) h.rd
  · rw [set_other (by omega)]
    exact hk _ _ (by omega) h.rs
  · rw [row_set hn2]
    rfl
  · have e : natV (l ++ [a]) = natV l ++ [.int .i64 (a : Int)] := by simp [natV]
    rw [e, List.length_append, List.length_singleton]
    exact own_frame hown fun q _ hq _ => set_other (by omega)
/-- Its three numbers. -/
theorem RtS.three (h : RtS w Q Tk S b nm v l rt tm nd W) (r2 t2 n2 : Int) : RtS w Q Tk S b nm v l r2 t2 n2 (((W.setCell ⟨Tk, 2, none⟩ (.int .i64 r2)).setCell ⟨Tk, 3, none⟩ (.int .i64 t2)).setCell ⟨Tk, 4, none⟩ (.int .i64 n2)) := by
  have h1 := h.lo
  have h2 := h.tlo
  have hs : ∀ q, q ≠ Tk → (((W.setCell ⟨Tk, 2, none⟩ (.int .i64 r2)).setCell ⟨Tk, 3, none⟩ (.int .i64 t2)).setCell ⟨Tk, 4, none⟩ (.int .i64 n2)).heap[q]? = W.heap[q]? := fun q hq => (set_other hq).trans ((set_other hq).trans (set_other hq))
  refine ⟨((h.od.setNew (by omega) _).setNew (by omega) _).setNew (by omega) _, ?_, h1, h.v0, h.r0, ?_, ?_, h2, own_frame h.ow fun q _ hq _ => hs q (by omega)⟩
  · show _ = _
    rw [hs Q (by omega)]
    exact h.rd
  · rw [hs _ (by omega)]
    exact h.rs
  · rw [row_set (row_set (row_set h.tk))]
    rfl
/-- What readTask answers. -/
def RtkOut (w : World) (Q : Nat) (S : ByteArray) (b : Bool) (e : Ending) (w' : World) : Prop := ∃ t A c S' b', e = .returned (.agg (tkA t A c)) ∧ NatsRow w' w'.heap.size A t.after ∧ t.after.length ≤ c ∧ (∀ ad, A = some ad → w.heap.size ≤ ad.block) ∧ RdAt w' Q S' b' ∧ Only1 Q w w' ∧ TkR S b t S' b'
/-- The result is laid. -/
theorem RtS.done {lv st : Int} {S0 : ByteArray} {b0 : Bool} (h : RtS w Q Tk S b nm v l rt tm nd W) (hR : TkR S0 b0 ⟨nm, l, rt, tm, nd, lv, st⟩ S b) (u : Fin 7 → Value) (x y : Value) : ∃ A c, v = .slice A l.length c ∧
    RtkOut w Q S0 b0 (.returned (.agg (tkA ⟨nm, l, rt, tm, nd, lv, st⟩ A c))) (((((((((W.setCell ⟨Tk, 5, none⟩ x).setCell ⟨Tk, 6, none⟩ y).setCell ⟨w.heap.size, 0, none⟩ (u 0)).setCell ⟨w.heap.size, 1, none⟩ (u 1)).setCell ⟨w.heap.size, 2, none⟩ (u 2)).setCell ⟨w.heap.size, 3, none⟩ (u 3)).setCell ⟨w.heap.size, 4, none⟩ (u 4)).setCell ⟨w.heap.size, 5, none⟩ (u 5)).setCell ⟨w.heap.size, 6, none⟩ (u 6)) := by
  have h1 := h.lo
  have h2 := h.tlo
  have hs : ∀ q, q ≠ Tk → q ≠ w.heap.size → (((((((((W.setCell ⟨Tk, 5, none⟩ x).setCell ⟨Tk, 6, none⟩ y).setCell ⟨w.heap.size, 0, none⟩ (u 0)).setCell ⟨w.heap.size, 1, none⟩ (u 1)).setCell ⟨w.heap.size, 2, none⟩ (u 2)).setCell ⟨w.heap.size, 3, none⟩ (u 3)).setCell ⟨w.heap.size, 4, none⟩ (u 4)).setCell ⟨w.heap.size, 5, none⟩ (u 5)).setCell ⟨w.heap.size, 6, none⟩ (u 6)).heap[q]? = W.heap[q]? := fun q ht hr => by
    rw [set_other hr, set_other hr, set_other hr, set_other hr, set_other hr, set_other hr, set_other hr, set_other ht, set_other ht]
  have hod : Only1 Q w (((((((((W.setCell ⟨Tk, 5, none⟩ x).setCell ⟨Tk, 6, none⟩ y).setCell ⟨w.heap.size, 0, none⟩ (u 0)).setCell ⟨w.heap.size, 1, none⟩ (u 1)).setCell ⟨w.heap.size, 2, none⟩ (u 2)).setCell ⟨w.heap.size, 3, none⟩ (u 3)).setCell ⟨w.heap.size, 4, none⟩ (u 4)).setCell ⟨w.heap.size, 5, none⟩ (u 5)).setCell ⟨w.heap.size, 6, none⟩ (u 6)) :=
    ((((((((h.od.setNew (by omega) _).setNew (by omega) _).setNew (Nat.le_refl _) _).setNew (Nat.le_refl _) _).setNew (Nat.le_refl _) _).setNew (Nat.le_refl _) _).setNew (Nat.le_refl _) _).setNew (Nat.le_refl _) _).setNew (Nat.le_refl _) _
  have hsz : W.heap.size ≤ (((((((((W.setCell ⟨Tk, 5, none⟩ x).setCell ⟨Tk, 6, none⟩ y).setCell ⟨w.heap.size, 0, none⟩ (u 0)).setCell ⟨w.heap.size, 1, none⟩ (u 1)).setCell ⟨w.heap.size, 2, none⟩ (u 2)).setCell ⟨w.heap.size, 3, none⟩ (u 3)).setCell ⟨w.heap.size, 4, none⟩ (u 4)).setCell ⟨w.heap.size, 5, none⟩ (u 5)).setCell ⟨w.heap.size, 6, none⟩ (u 6)).heap.size := by
    simp only [World.size_setCell]
    exact Nat.le_refl _
  generalize (((((((((W.setCell ⟨Tk, 5, none⟩ x).setCell ⟨Tk, 6, none⟩ y).setCell ⟨w.heap.size, 0, none⟩ (u 0)).setCell ⟨w.heap.size, 1, none⟩ (u 1)).setCell ⟨w.heap.size, 2, none⟩ (u 2)).setCell ⟨w.heap.size, 3, none⟩ (u 3)).setCell ⟨w.heap.size, 4, none⟩ (u 4)).setCell ⟨w.heap.size, 5, none⟩ (u 5)).setCell ⟨w.heap.size, 6, none⟩ (u 6)) = V at *
  obtain ⟨A, c, e, hN, hcap⟩ := nats_own h.ow
  refine ⟨A, c, e, _, A, c, S, b, rfl, hN.frame hsz (fun q cur _ hq => ?_), hcap, fun ad ea => ?_, ?_, hod, hR⟩
  · exact hs q (fun e => by rw [e] at hq; exact absurd (tag_ne hq h.tk) (by decide)) (fun e => by rw [e] at hq; exact absurd (tag_ne hq h.rs) (by decide))
  · have := (own_tag h.ow (g := ad.block) (by rw [e, ea]; rfl)).1
    omega
  · show _ = _
    rw [hs Q (by omega) (by omega)]
    exact h.rd
end
theorem info_tskR : (Tryz.prog.info? 65).map (·.size) = some 7 := by kernel_rfl
section
variable {w : World} {Q : Nat} {S : ByteArray} {b : Bool}
set_option maxHeartbeats 8000000 in
set_option maxRecDepth 100000 in
theorem rtask_is (hr : RdAt w Q S b) (hV : VarsAt w) (hS : S.size ≤ 1000000) : Calls Tryz.prog 75 #[ptrV Q] w (RtkOut w Q S b) := by
  obtain ⟨i0, hi, hz0, hz1, hz2⟩ := info_all info_int
  have b1 := (Below.refl w.heap.size w).alloc (Nat.le_refl _) (.cells z7 65)
  have m1 := made_at w (.cells z7 65)
  have HR0 := Lib.hid hr
  have HV0 := Lib.hid hV
  have HSZ := Lib.hid hS
  have HB1 := Lib.hid b1
  have HM1 := Lib.hid m1
  clear hr hV hS b1 m1
  go_enter Tryz.func75, Tryz.ntmps75
  go_upto_region 1 with fail
  generalize hW0 : w.alloc _ = W0 at *
  clear hW0
  go_wp2_with fail
  refine (text_stepR (HR0.out.below HB1.out) (HV0.out.later HB1.out) HSZ.out 8).mono ?_
  rintro e w1 ⟨nm, S1, q1, rfl, hr1, ho1, hd1⟩
  have b2 := (Below.refl w1.heap.size w1).alloc (Nat.le_refl _) (.cells #[.string nm, .slice none 0 0, .int .i64 0, .int .i64 0, .int .i64 0, .int .i64 0, .int .u16 0] 65)
  have HS1 := Lib.hid (show RtS w Q w1.heap.size S1 q1 nm (.slice none 0 0) [] 0 0 0 (w1.alloc (.cells #[.string nm, .slice none 0 0, .int .i64 0, .int .i64 0, .int .i64 0, .int .i64 0, .int .u16 0] 65)) from by
    have hq := HR0.out.low
    have hrs := ho1.at HM1.out (by omega)
    exact ⟨((Only1.of_below HB1.out).trans ho1).trans (.of_below b2), hr1.below b2, hq, HV0.out, ⟨_, _, HR0.out⟩, later_at b2 hrs, made_at _ _, (Array.getElem?_eq_some_iff.1 hrs).1, World.ownsRow_nil _ _ _ _⟩)
  have HD1 := Lib.hid hd1
  have HSZ1 := Lib.hid (Nat.le_trans hd1.size HSZ.out)
  clear hr1 ho1 hd1 b2 HM1 HB1 HR0 HV0
  go_upto_region 2 with fail
  generalize w1.alloc _ = W1 at *
  generalize w1.heap.size = Tk at *
  go_wp2_with fail
  refine (int_step HS1.out.rd HS1.out.ve HSZ1.out 0 8).mono ?_
  rintro e w2 ⟨cnt, S2, q2, rfl, hr2, ho2, hd2⟩
  have HS2 := Lib.hid (HS1.out.only hr2 ho2)
  have HP2 := Lib.hid (AfR.start HD1.out hd2)
  have hcb := HP2.out.cb
  clear hr2 ho2 hd2 HS1 HD1 HSZ1
  go_wp2_with fail
  go_loopw [9] (fun i wr => ∃ (v : Value) (S' : ByteArray) (q : Bool) (l : List Nat), i = .int .i64 (l.length : Int) ∧ (l.length : Int) ≤ cnt ∧ Hid (AfR S b nm cnt l S' q) ∧ Hid (RtS w Q Tk S' q nm v l 0 0 0 wr)) (fun i _ => cnt.toNat - (intOf i).toNat)
  case atStart => exact ⟨_, S2, q2, [], rfl, hcb.1, HP2, HS2⟩
  case round =>
    obtain ⟨v, S', q, l, rfl, hk, HP, HS⟩ := hrel
    clear HP2 HS2
    by_cases hlt : (l.length : Int) < cnt
    · go_upto_region 4 with fail
      refine wp_region_noPanic ?_
      refine wp_region_held_drew (S := fun _ => True) (by kernel_rfl) trivial (fun hHeld => ?_)
      refine take_yes 0 11 (v := ?_) rfl rfl (by kernel_rfl) (by kernel_rfl) (by kernel_rfl) noPanic_any (by rfl) hHeld ?_ ?_
      rotate_left
      · intro wx hSw; (try dsimp only at hSw); go_simp <;> with_reducible rfl
      simp only [Act.put, List.setIfInBounds_toArray, List.set_cons_zero, List.set_cons_succ]
      refine take_yes 2 13 (v := ?_) rfl rfl (by kernel_rfl) (by kernel_rfl) (by kernel_rfl) noPanic_any (by rfl) hHeld ?_ ?_
      rotate_left
      · intro wx hSw; (try dsimp only at hSw); go_simp <;> with_reducible rfl
      simp only [Act.put, List.setIfInBounds_toArray, List.set_cons_zero, List.set_cons_succ]
      have HS3 := Lib.hid (HS.out.later (Below.refl _ _).drew)
      generalize wr.drew = W3 at *
      clear HS hHeld
      refine two_rdyH (i := 1) (j := 3) (by kernel_rfl) (wpOp_step rfl (fun KK hKK => ?_)) (wpOp_step rfl (fun KK hKK => ?_))
      · have HKK := Lib.hid hKK
        clear hKK
        have y1 := cellH HS3.out.tk 1
        simp at y1
        go_simp
        refine HKK.out _ _ ⟨trivial, ?_⟩
        clear HKK KK y1
        (try simp only [Act.put, List.setIfInBounds_toArray, List.set_cons_zero, List.set_cons_succ])
        refine one_readyH (i := 3) (by kernel_rfl) (wpOp_step rfl (fun KK hKK => ?_))
        have HKK := Lib.hid hKK
        clear hKK
        go_simp
        refine (int_step HS3.out.rd HS3.out.ve (Nat.le_trans HP.out.size HSZ.out) 0 7).mono ?_
        rintro e w5 ⟨x, S5, q5, rfl, hr5, ho5, hd5⟩
        have hx0 : 0 ≤ x := by
          cases hq : q5 with
          | true => have := hd5.bad hq; omega
          | false => have := (hd5.yes hq).2.1; omega
        obtain ⟨a, rfl⟩ : ∃ a : Nat, x = (a : Int) := ⟨x.toNat, by omega⟩
        have HS5 := Lib.hid (HS3.out.only hr5 ho5)
        have HP5 := Lib.hid (HP.out.next hlt hd5)
        refine HKK.out _ _ ⟨trivial, ?_⟩
        clear HKK KK hr5 ho5 hd5 hx0
        (try simp only [Act.put, List.setIfInBounds_toArray, List.set_cons_zero, List.set_cons_succ])
        refine one_readyH (i := 4) (by kernel_rfl) (wpOp_step rfl (fun KK hKK => ?_))
        have HKK := Lib.hid hKK
        clear hKK
        go_simp
        refine HKK.out _ _ ⟨trivial, ?_⟩
        clear HKK KK
        (try simp only [Act.put, List.setIfInBounds_toArray, List.set_cons_zero, List.set_cons_succ])
        refine one_readyH (i := 5) (by kernel_rfl) (wpOp_step rfl (fun KK hKK => ?_))
        have HKK := Lib.hid hKK
        clear hKK
        have hsz1 : Tk + 1 ≤ (w5.alloc (.cells #[.int .i64 (a : Int)] 3)).heap.size := by have := (Array.getElem?_eq_some_iff.1 HS5.out.tk).1; simp; omega
        refine step_append_own _ rfl (.tmp 12) (.tmp 15) 60 rfl (Tk + 1) 3 i0 _ 1 8 Tryz.underlying60 hi hz0 hz1 hz2 rfl (by omega) v l.length (natV l) rfl (HS5.out.ow.alloc _) ⟨w5.heap.size, 0, none⟩ 1 1 [.int .i64 (a : Int)] rfl rfl (one_cell_new w5 _ _) (by simp [Value.oneCell']) (by unfold maxLen; omega) (by omega) hsz1 ?_
        intro v7 W7 hown7 hg7 _
        obtain ⟨hn7, hS7⟩ := HS5.out.put hown7 hg7
        obtain ⟨B7, d7, rfl⟩ : ∃ B d, v7 = .slice B (l.length + 1) d := by
          have hown : (W7.setCell ⟨Tk, 1, none⟩ v7).ownsRow (Tk + 1) 3 1 v7 ((l ++ [a]).map Int.ofNat).length (((l ++ [a]).map Int.ofNat).map (Value.int .i64)) := by
            rw [List.length_map, List.map_map]
            exact hS7.ow
          obtain ⟨A, c, e, _⟩ := intsC_of_own hown
          rw [List.length_map, List.length_append, List.length_singleton] at e
          exact ⟨A, c, e⟩
        have z1 := cellH hn7 1
        have zf := freeH hn7 1
        simp at z1
        have HS7 := Lib.hid hS7
        refine HKK.out _ _ ⟨trivial, ?_⟩
        clear HKK KK hown7 hg7 hn7 hS7 hsz1
        (try simp only [Act.put, List.setIfInBounds_toArray])
        refine one_readyH (i := 6) (by kernel_rfl) (wpOp_step rfl (fun KK hKK => ?_))
        have HKK := Lib.hid hKK
        clear hKK
        go_simp
        refine HKK.out _ _ ⟨trivial, ?_⟩
        clear HKK KK
        (try simp only [Act.put, List.setIfInBounds_toArray, List.set_cons_zero, List.set_cons_succ])
        refine one_readyH (i := 7) (by kernel_rfl) (wpOp_step rfl (fun KK hKK => ?_))
        have HKK := Lib.hid hKK
        clear hKK
        go_simp
        refine HKK.out _ _ ⟨trivial, ?_⟩
        clear HKK KK z1 zf
        refine wpAnyH_done (by kernel_rfl) ?_ _
        refine NoPanic.normal ?_
        go_wp2_with fail
        go_roundw
        case rel => exact ⟨_, S5, q5, l ++ [a], by simp, by simp; omega, HP5, HS7⟩
        case measure => simp [intOf]; omega
      · have HKK := Lib.hid hKK
        clear hKK
        go_simp
        refine (int_step HS3.out.rd HS3.out.ve (Nat.le_trans HP.out.size HSZ.out) 0 7).mono ?_
        rintro e w5 ⟨x, S5, q5, rfl, hr5, ho5, hd5⟩
        have hx0 : 0 ≤ x := by
          cases hq : q5 with
          | true => have := hd5.bad hq; omega
          | false => have := (hd5.yes hq).2.1; omega
        obtain ⟨a, rfl⟩ : ∃ a : Nat, x = (a : Int) := ⟨x.toNat, by omega⟩
        have HS5 := Lib.hid (HS3.out.only hr5 ho5)
        have HP5 := Lib.hid (HP.out.next hlt hd5)
        refine HKK.out _ _ ⟨trivial, ?_⟩
        clear HKK KK hr5 ho5 hd5 hx0
        (try simp only [Act.put, List.setIfInBounds_toArray, List.set_cons_zero, List.set_cons_succ])
        refine two_rdyH (i := 1) (j := 4) (by kernel_rfl) (wpOp_step rfl (fun KK hKK => ?_)) (wpOp_step rfl (fun KK hKK => ?_))
        · have HKK := Lib.hid hKK
          clear hKK
          have y1 := cellH HS5.out.tk 1
          simp at y1
          go_simp
          refine HKK.out _ _ ⟨trivial, ?_⟩
          clear HKK KK y1
          (try simp only [Act.put, List.setIfInBounds_toArray, List.set_cons_zero, List.set_cons_succ])
          refine one_readyH (i := 4) (by kernel_rfl) (wpOp_step rfl (fun KK hKK => ?_))
          have HKK := Lib.hid hKK
          clear hKK
          go_simp
          refine HKK.out _ _ ⟨trivial, ?_⟩
          clear HKK KK
          (try simp only [Act.put, List.setIfInBounds_toArray, List.set_cons_zero, List.set_cons_succ])
          refine one_readyH (i := 5) (by kernel_rfl) (wpOp_step rfl (fun KK hKK => ?_))
          have HKK := Lib.hid hKK
          clear hKK
          have hsz1 : Tk + 1 ≤ (w5.alloc (.cells #[.int .i64 (a : Int)] 3)).heap.size := by have := (Array.getElem?_eq_some_iff.1 HS5.out.tk).1; simp; omega
          refine step_append_own _ rfl (.tmp 12) (.tmp 15) 60 rfl (Tk + 1) 3 i0 _ 1 8 Tryz.underlying60 hi hz0 hz1 hz2 rfl (by omega) v l.length (natV l) rfl (HS5.out.ow.alloc _) ⟨w5.heap.size, 0, none⟩ 1 1 [.int .i64 (a : Int)] rfl rfl (one_cell_new w5 _ _) (by simp [Value.oneCell']) (by unfold maxLen; omega) (by omega) hsz1 ?_
          intro v7 W7 hown7 hg7 _
          obtain ⟨hn7, hS7⟩ := HS5.out.put hown7 hg7
          obtain ⟨B7, d7, rfl⟩ : ∃ B d, v7 = .slice B (l.length + 1) d := by
            have hown : (W7.setCell ⟨Tk, 1, none⟩ v7).ownsRow (Tk + 1) 3 1 v7 ((l ++ [a]).map Int.ofNat).length (((l ++ [a]).map Int.ofNat).map (Value.int .i64)) := by
              rw [List.length_map, List.map_map]
              exact hS7.ow
            obtain ⟨A, c, e, _⟩ := intsC_of_own hown
            rw [List.length_map, List.length_append, List.length_singleton] at e
            exact ⟨A, c, e⟩
          have z1 := cellH hn7 1
          have zf := freeH hn7 1
          simp at z1
          have HS7 := Lib.hid hS7
          refine HKK.out _ _ ⟨trivial, ?_⟩
          clear HKK KK hown7 hg7 hn7 hS7 hsz1
          (try simp only [Act.put, List.setIfInBounds_toArray])
          refine one_readyH (i := 6) (by kernel_rfl) (wpOp_step rfl (fun KK hKK => ?_))
          have HKK := Lib.hid hKK
          clear hKK
          go_simp
          refine HKK.out _ _ ⟨trivial, ?_⟩
          clear HKK KK
          (try simp only [Act.put, List.setIfInBounds_toArray, List.set_cons_zero, List.set_cons_succ])
          refine one_readyH (i := 7) (by kernel_rfl) (wpOp_step rfl (fun KK hKK => ?_))
          have HKK := Lib.hid hKK
          clear hKK
          go_simp
          refine HKK.out _ _ ⟨trivial, ?_⟩
          clear HKK KK z1 zf
          refine wpAnyH_done (by kernel_rfl) ?_ _
          refine NoPanic.normal ?_
          go_wp2_with fail
          go_roundw
          case rel => exact ⟨_, S5, q5, l ++ [a], by simp, by simp; omega, HP5, HS7⟩
          case measure => simp [intOf]; omega
        · have HKK := Lib.hid hKK
          clear hKK
          go_simp
          refine HKK.out _ _ ⟨trivial, ?_⟩
          clear HKK KK
          (try simp only [Act.put, List.setIfInBounds_toArray, List.set_cons_zero, List.set_cons_succ])
          have HS6 := Lib.hid (HS5.out.later ((Below.refl _ _).alloc (Nat.le_refl _) (.cells #[.int .i64 (a : Int)] 3)))
          refine one_readyH (i := 1) (by kernel_rfl) (wpOp_step rfl (fun KK hKK => ?_))
          have HKK := Lib.hid hKK
          clear hKK
          have y1 := cellH HS6.out.tk 1
          simp at y1
          go_simp
          refine HKK.out _ _ ⟨trivial, ?_⟩
          clear HKK KK y1
          (try simp only [Act.put, List.setIfInBounds_toArray, List.set_cons_zero, List.set_cons_succ])
          refine one_readyH (i := 5) (by kernel_rfl) (wpOp_step rfl (fun KK hKK => ?_))
          have HKK := Lib.hid hKK
          clear hKK
          have hsz1 : Tk + 1 ≤ (w5.alloc (.cells #[.int .i64 (a : Int)] 3)).heap.size := by have := (Array.getElem?_eq_some_iff.1 HS5.out.tk).1; simp; omega
          refine step_append_own _ rfl (.tmp 12) (.tmp 15) 60 rfl (Tk + 1) 3 i0 _ 1 8 Tryz.underlying60 hi hz0 hz1 hz2 rfl (by omega) v l.length (natV l) rfl (HS5.out.ow.alloc _) ⟨w5.heap.size, 0, none⟩ 1 1 [.int .i64 (a : Int)] rfl rfl (one_cell_new w5 _ _) (by simp [Value.oneCell']) (by unfold maxLen; omega) (by omega) hsz1 ?_
          intro v7 W7 hown7 hg7 _
          obtain ⟨hn7, hS7⟩ := HS5.out.put hown7 hg7
          obtain ⟨B7, d7, rfl⟩ : ∃ B d, v7 = .slice B (l.length + 1) d := by
            have hown : (W7.setCell ⟨Tk, 1, none⟩ v7).ownsRow (Tk + 1) 3 1 v7 ((l ++ [a]).map Int.ofNat).length (((l ++ [a]).map Int.ofNat).map (Value.int .i64)) := by
              rw [List.length_map, List.map_map]
              exact hS7.ow
            obtain ⟨A, c, e, _⟩ := intsC_of_own hown
            rw [List.length_map, List.length_append, List.length_singleton] at e
            exact ⟨A, c, e⟩
          have z1 := cellH hn7 1
          have zf := freeH hn7 1
          simp at z1
          have HS7 := Lib.hid hS7
          refine HKK.out _ _ ⟨trivial, ?_⟩
          clear HKK KK hown7 hg7 hn7 hS7 hsz1
          (try simp only [Act.put, List.setIfInBounds_toArray])
          refine one_readyH (i := 6) (by kernel_rfl) (wpOp_step rfl (fun KK hKK => ?_))
          have HKK := Lib.hid hKK
          clear hKK
          go_simp
          refine HKK.out _ _ ⟨trivial, ?_⟩
          clear HKK KK
          (try simp only [Act.put, List.setIfInBounds_toArray, List.set_cons_zero, List.set_cons_succ])
          refine one_readyH (i := 7) (by kernel_rfl) (wpOp_step rfl (fun KK hKK => ?_))
          have HKK := Lib.hid hKK
          clear hKK
          go_simp
          refine HKK.out _ _ ⟨trivial, ?_⟩
          clear HKK KK z1 zf
          refine wpAnyH_done (by kernel_rfl) ?_ _
          refine NoPanic.normal ?_
          go_wp2_with fail
          go_roundw
          case rel => exact ⟨_, S5, q5, l ++ [a], by simp, by simp; omega, HP5, HS7⟩
          case measure => simp [intOf]; omega
    · have hlen : (l.length : Int) = cnt := by omega
      go_wp2_with fail
      refine (int_step HS.out.rd HS.out.ve (Nat.le_trans HP.out.size HSZ.out) 0 5).mono ?_
      rintro e w3 ⟨rt, S3, q3, rfl, hr3, ho3, hd3⟩
      have HS3 := Lib.hid (HS.out.only hr3 ho3)
      have HD3 := Lib.hid hd3
      have HZ3 := Lib.hid (Nat.le_trans hd3.size (Nat.le_trans HP.out.size HSZ.out))
      clear hr3 ho3 hd3 HS
      go_wp2_with fail
      refine (int_step HS3.out.rd HS3.out.ve HZ3.out 1 100).mono ?_
      rintro e w4 ⟨tm, S4, q4, rfl, hr4, ho4, hd4⟩
      have HS4 := Lib.hid (HS3.out.only hr4 ho4)
      have HD4 := Lib.hid hd4
      have HZ4 := Lib.hid (Nat.le_trans hd4.size HZ3.out)
      clear hr4 ho4 hd4 HS3
      go_wp2_with fail
      refine (int_step HS4.out.rd HS4.out.ve HZ4.out 0 4).mono ?_
      rintro e w5 ⟨nd, S5, q5, rfl, hr5, ho5, hd5⟩
      have HS5 := Lib.hid (HS4.out.only hr5 ho5)
      have HD5 := Lib.hid hd5
      have HZ5 := Lib.hid (Nat.le_trans hd5.size HZ4.out)
      clear hr5 ho5 hd5 HS4
      have z2 := cellH HS5.out.tk 2
      have z3 := cellH HS5.out.tk 3
      have z4 := cellH HS5.out.tk 4
      have zf := freeH HS5.out.tk
      simp at z2 z3 z4
      have HS6 := Lib.hid (HS5.out.three rt tm nd)
      go_upto_region 7 with fail
      generalize hW6 : (((w5.setCell ⟨Tk, 2, none⟩ (.int .i64 rt)).setCell ⟨Tk, 3, none⟩ (.int .i64 tm)).setCell ⟨Tk, 4, none⟩ (.int .i64 nd)) = W6 at *
      clear hW6 z2 z3 z4 zf HS5
      go_wp2_with fail
      refine (label_step HS6.out.rd HS6.out.ve HZ5.out).mono ?_
      rintro e w7 ⟨lv, st, S7, q7, rfl, hr7, ho7, hd7⟩
      have HS7 := Lib.hid (HS6.out.only hr7 ho7)
      have HT := Lib.hid (HP.out.last hlen HD3.out HD4.out HD5.out hd7)
      clear hr7 ho7 hd7 HS6
      have hTk := HS7.out.tlo
      have z0 := cellH HS7.out.tk 0
      have z1 := cellH HS7.out.tk 1
      have z2 := cellH HS7.out.tk 2
      have z3 := cellH HS7.out.tk 3
      have z4 := cellH HS7.out.tk 4
      have z5 := cellH HS7.out.tk 5
      have z6_ := cellH HS7.out.tk 6
      have zf := freeH HS7.out.tk
      have y0 := cellH HS7.out.rs 0
      have y1 := cellH HS7.out.rs 1
      have y2 := cellH HS7.out.rs 2
      have y3 := cellH HS7.out.rs 3
      have y4 := cellH HS7.out.rs 4
      have y5 := cellH HS7.out.rs 5
      have y6 := cellH HS7.out.rs 6
      have yf := freeH HS7.out.rs
      simp at z0 z1 z2 z3 z4 z5 z6_ y0 y1 y2 y3 y4 y5 y6
      obtain ⟨A, c, hvA, _⟩ := HS7.out.done HT.out (fun _ => .int .i64 0) (.int .i64 0) (.int .i64 0)
      subst hvA
      obtain ⟨A', c', hvA, hout⟩ := HS7.out.done HT.out (fun i => #[Value.string nm, .slice A l.length c, .int .i64 rt, .int .i64 tm, .int .i64 nd, .int .i64 lv, .int .u16 st].getD i.1 (.int .i64 0)) (.int .i64 lv) (.int .u16 st)
      injection hvA with e1 _ e2
      subst e1 e2
      have HO := Lib.hid hout
      have HTL := Lib.hid HS7.out.tlo
      have HRS := Lib.hid HS7.out.rs
      clear hout
      go_wp2_with fail
      exact bodyPost_ret (results_cell_row (fn := Tryz.f75) rfl _ _ w.heap.size 65 (tkA ⟨nm, l, rt, tm, nd, lv, st⟩ A c) (0, 0) _ rfl (by
        have hne : w.heap.size ≠ Tk := by have := HTL.out; omega
        have h0 : ((w7.setCell ⟨Tk, 5, none⟩ (.int .i64 lv)).setCell ⟨Tk, 6, none⟩ (.int .u16 st)).heap[w.heap.size]? = some (.cells z7 65 (0, 0)) := by rw [set_other hne, set_other hne]; exact HRS.out
        rw [row_set (row_set (row_set (row_set (row_set (row_set (row_set h0))))))]
        rfl) Tryz.underlying65 rfl info_tskR) rfl HO.out
end
end Go.Proofs.YtfjaibaidpbppaaGreatDoor
