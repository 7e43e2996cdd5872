/-
  The program's Writer: String, Int, Text, Label. Conditions: how the Writer and the lists lie, what the package-level variables hold, lengths. Plain words: what stands between the separators of a text, each part with its place; a text's lines by parts. No program is named here.
-/
import Derived.Test.YtfjaibaidpbppaaGreatDoorCodY
import Derived.Test.YtfjaibaidpbppaaGreatDoorCodU
import Derived.Test.YtfjaibaidpbppaaGreatDoorRng
namespace Go.Proofs.YtfjaibaidpbppaaGreatDoor
open Go.RowKit
section
variable {w : World} {O : List Nat} {P : Nat} {t : ByteArray}
theorem put_is (h : WrAt w O P t) (s : ByteArray) (hts : t.size + s.size ≤ 140737488355328) :
    Calls Tryz.prog 82 #[.pointer (some ⟨P, 0, none⟩), .string s] w (Wrote w O P (t ++ s)) := by
  rcases h with ⟨rfl, h, e⟩ | h
  · exact put_new h t s e (by omega)
  · exact put_full h s hts

/-! ### String -/
theorem row_text {W : World} {B cap : Nat} {s : ByteArray} (h : Row 5 W B cap (bl s)) : (convert 120 9 (.slice (some ⟨B, 0, none⟩) s.size cap)).run Tryz.prog W = .ok (.string s) W := by
  have := run_convert_bytes_back (P := Tryz.prog) W 120 9 5 ⟨B, 0, none⟩ cap (bl s) Tryz.underlying120 Tryz.underlying5 Tryz.underlying9 (fun j hj => by
    have hadd : (⟨B, 0, none⟩ : Addr).add j = ⟨B, j, none⟩ := by unfold Addr.add; split <;> simp_all
    rw [hadd]
    exact h.cell j hj)
  rw [bl_len] at this
  exact this
theorem Row.fits {e : TypeId} {W : World} {B cap : Nat} {l : List UInt8} (h : Row e W B cap l) : l.length ≤ cap ∧ cap ≤ 9223372036854775807 := by
  obtain ⟨_, _, _, _, h1, h2, _⟩ := h
  unfold maxLen at h2
  exact ⟨h1, h2⟩
set_option maxHeartbeats 1000000 in
set_option maxRecDepth 100000 in
theorem str_full (h : WrF w O P t) : Calls Tryz.prog 46 #[.pointer (some ⟨P, 0, none⟩)] w fun e w' => e = .returned (.string t) ∧ Below w.heap.size w w' := by
  obtain ⟨S, B, cap, hO, hPS, hPB, hSB, hp, hsl, hrow⟩ := h
  have hf := hrow.fits
  rw [bl_len] at hf
  have f1 := hf.1
  have f2 := hf.2
  have hcv := fun n => row_text (hrow.block (w' := w.drewN n) rfl)
  have zP0 := cellH hp 0
  have zP1 := cellH hp 1
  have zS0 := cellH hsl 0
  simp at zP0 zP1 zS0
  clear hp hsl hrow hO hf
  go_enter Tryz.func46, Tryz.ntmps46
  go_wp2_with fail
  go_quiet (fail)
  go_wp2_with fail
  go_ret
  exact ⟨rfl, rfl, rfl, rfl, Nat.le_refl _, fun _ _ => rfl⟩
theorem str_is (h : WrAt w O P t) : Calls Tryz.prog 46 #[.pointer (some ⟨P, 0, none⟩)] w fun e w' => e = .returned (.string t) ∧ Below w.heap.size w w' := by
  rcases h with ⟨_, h, rfl⟩ | h
  · exact (str_new h).mono fun e w' ⟨he, hw⟩ => ⟨he, by subst hw; exact Below.refl _ _⟩
  · exact str_full h

/-! ### Numbers and texts -/
/-- No block of O is a variable's that codec reads. -/
def NoVar (O : List Nat) : Prop := ∀ i ∈ O, i ≠ 3 ∧ i ≠ 1 ∧ i ≠ 2
theorem VarsAt.onlyO {w' : World} (hV : VarsAt w) (hn : NoVar O) (ho : OnlyO O w w') : VarsAt w' := by
  obtain ⟨tb, ⟨tp1, p1, s1⟩, ⟨tp2, p2, r1⟩⟩ := hV
  exact ⟨var_block gTab tb (ho.block _ (var_low gTab tb) fun h => (hn _ h).1 rfl), ⟨tp1, p1, var_block gSyn s1 (ho.block _ (var_low gSyn s1) fun h => (hn _ h).2.1 rfl)⟩, ⟨tp2, p2, var_block gRng r1 (ho.block _ (var_low gRng r1) fun h => (hn _ h).2.2 rfl)⟩⟩
theorem VarsAt.fresh (hV : VarsAt w) {i : Nat} (h : w.heap.size ≤ i) : i ≠ 3 ∧ i ≠ 1 ∧ i ≠ 2 := by
  obtain ⟨tb, ⟨_, _, s1⟩, ⟨_, _, r1⟩⟩ := hV
  have h1 := var_low gTab tb
  have h2 := var_low gSyn s1
  have h3 := var_low gRng r1
  omega
theorem NoVar.new {O' : List Nat} (h : NoVar O) (hV : VarsAt w) (hn : New O O' w) : NoVar O' := fun i hi => by
  rcases hn i hi with h1 | h1
  · exact h i h1
  · exact hV.fresh h1
/-- The Writer, beside the variables. -/
structure WrV (w : World) (O : List Nat) (P : Nat) (t : ByteArray) : Prop where
  wr : WrAt w O P t
  vars : VarsAt w
  no : NoVar O
def WroteV (w : World) (O : List Nat) (P : Nat) (t : ByteArray) (e : Ending) (w' : World) : Prop := e = .returned (.tuple #[]) ∧ ∃ O', WrV w' O' P t ∧ New O O' w ∧ OnlyO O w w'
theorem WrV.below {w' : World} (h : WrV w O P t) (hb : Below w.heap.size w w') : WrV w' O P t := ⟨h.wr.below hb, h.vars.later hb, h.no⟩
theorem WrV.zero (hV : VarsAt w) : WrV (w.alloc (.cells #[.pointer none, .int .i64 0] 88)) [w.heap.size] w.heap.size .empty :=
  ⟨.inl ⟨rfl, made_at _ _, rfl⟩, hV.later ((Below.refl _ _).alloc (Nat.le_refl _) _), fun i hi => by rw [List.mem_singleton] at hi; subst hi; exact hV.fresh (Nat.le_refl _)⟩
theorem put_v (h : WrV w O P t) (s : ByteArray) (hts : t.size + s.size ≤ 140737488355328) :
    Calls Tryz.prog 82 #[.pointer (some ⟨P, 0, none⟩), .string s] w (WroteV w O P (t ++ s)) :=
  (put_is h.wr s hts).mono fun _ _ ⟨he, O', h1, h2, h3⟩ => ⟨he, O', ⟨h1, h.vars.onlyO h.no h3, h.no.new h.vars h2⟩, h2, h3⟩

/-- Numbers, texts, one behind the other, from A on, in a block that the Writer doesn't hold. -/
def IntsAt (w : World) (A : Option Addr) (L : List Int) : Prop := 0 < L.length → ∃ ad, A = some ad ∧ ∀ (i : Nat) (n : Int), L[i]? = some n → w.cell? (ad.add i) = some (.int .i64 n)
def TxtsAt (w : World) (A : Option Addr) (L : List ByteArray) : Prop := 0 < L.length → ∃ ad, A = some ad ∧ ∀ (i : Nat) (s : ByteArray), L[i]? = some s → w.cell? (ad.add i) = some (.string s)
def Off (A : Option Addr) (O : List Nat) : Prop := ∀ ad, A = some ad → ad.block ∉ O
def intsX (t : ByteArray) (L : List Int) : ByteArray := L.foldl (fun t n => t ++ numX n) t
def txtsX (t : ByteArray) (L : List ByteArray) : ByteArray := L.foldl (fun t s => t ++ (numX s.size ++ s)) t
theorem add_block (ad : Addr) (i : Nat) : (ad.add i).block = ad.block := by unfold Addr.add; split <;> rfl
theorem cell_onlyO {w' : World} {ad : Addr} {v : Value} (ho : OnlyO O w w') (hn : ad.block ∉ O) (h : w.cell? ad = some v) : w'.cell? ad = some v := by
  have hl := Lib.lt_of_cell h
  rw [World.cell?_of_block (ho.block _ hl hn)]
  exact h
theorem intsX_take (t : ByteArray) (L : List Int) (k : Nat) (n : Int) (h : L[k]? = some n) : intsX t (L.take (k + 1)) = intsX t (L.take k) ++ numX n := by
  unfold intsX
  rw [List.take_add_one, h, List.foldl_append]
  rfl
theorem intsX_le : ∀ (L : List Int) (t : ByteArray), t.size ≤ (intsX t L).size
  | [], _ => Nat.le_refl _
  | n :: L, t => by
    have := intsX_le L (t ++ numX n)
    rw [size_cat] at this
    show t.size ≤ (intsX (t ++ numX n) L).size
    omega
theorem intsX_part (t : ByteArray) (L : List Int) (k : Nat) : (intsX t (L.take k)).size ≤ (intsX t L).size := by
  have h : intsX t L = intsX (intsX t (L.take k)) (L.drop k) := by
    unfold intsX
    rw [← List.foldl_append, List.take_append_drop]
  rw [h]
  exact intsX_le _ _
theorem txtsX_take (t : ByteArray) (L : List ByteArray) (k : Nat) (s : ByteArray) (h : L[k]? = some s) : txtsX t (L.take (k + 1)) = txtsX t (L.take k) ++ (numX s.size ++ s) := by
  unfold txtsX
  rw [List.take_add_one, h, List.foldl_append]
  rfl
theorem txtsX_le : ∀ (L : List ByteArray) (t : ByteArray), t.size ≤ (txtsX t L).size
  | [], _ => Nat.le_refl _
  | n :: L, t => by
    have := txtsX_le L (t ++ (numX n.size ++ n))
    rw [size_cat] at this
    show t.size ≤ (txtsX (t ++ (numX n.size ++ n)) L).size
    omega
theorem txtsX_part (t : ByteArray) (L : List ByteArray) (k : Nat) : (txtsX t (L.take k)).size ≤ (txtsX t L).size := by
  have h : txtsX t L = txtsX (txtsX t (L.take k)) (L.drop k) := by
    unfold txtsX
    rw [← List.foldl_append, List.take_append_drop]
  rw [h]
  exact txtsX_le _ _
theorem numX_cat (n : Int) : numX n = ofL (headT n) ++ (⟨#[44]⟩ : ByteArray) := by
  apply bl_inj
  rw [bl_numX, bl_append, bl_ofL]
  rfl
theorem headX_len {n : Int} (h0 : -9223372036854775808 ≤ n) (h1 : n ≤ 9223372036854775807) : (ofL (headT n)).size ≤ 20 := by
  rw [← bl_len, bl_ofL]
  exact (headT_len h0 h1).2

set_option maxHeartbeats 4000000 in
set_option maxRecDepth 100000 in
theorem wint_any (h : WrV w O P t) (A : Option Addr) (L : List Int) (c : Nat) (hA : IntsAt w A L) (hAO : 0 < L.length → Off A O) (hr : ∀ n ∈ L, -9223372036854775808 ≤ n ∧ n ≤ 9223372036854775807) (hL : L.length ≤ 1000000000) (hb : (intsX t L).size ≤ 140737488355328) :
    Calls Tryz.prog 74 #[.pointer (some ⟨P, 0, none⟩), .slice A L.length c] w (WroteV w O P (intsX t L)) := by
  have HA := Lib.hid hA
  have HAO := Lib.hid hAO
  have HR := Lib.hid hr
  have HB := Lib.hid hb
  have HW := Lib.hid h
  clear hA hAO hr hb h
  go_enter Tryz.func74, Tryz.ntmps74
  go_wp2_with fail
  go_loopw [10] (fun i wr => ∃ (k : Nat) (O1 : List Nat) (T : ByteArray), k ≤ L.length ∧ i = .int .i64 k ∧ Hid (T = intsX t (L.take k)) ∧ WrV wr O1 P T ∧ New O O1 w ∧ OnlyO O w wr) (fun i _ => L.length - (intOf i).toNat)
  case atStart => exact ⟨0, O, t, Nat.zero_le _, rfl, rfl, HW.out, New.refl, OnlyO.of_below (Below.refl _ _)⟩
  case round =>
    obtain ⟨k, O1, T, hk, rfl, hT, hW, hN, hO⟩ := hrel
    have HW1 := Lib.hid hW
    have HN := Lib.hid hN
    have HO := Lib.hid hO
    clear hW hN hO HW
    by_cases hlt : k < L.length
    · obtain ⟨n, hn⟩ : ∃ n, L[k]? = some n := ⟨_, List.getElem?_eq_getElem hlt⟩
      obtain ⟨ad, e, hcell⟩ := HA.out (by omega)
      subst e
      have x0 := cell_onlyO HO.out (by
        have := HAO.out (by omega) ad rfl
        rw [add_block]; exact this) (hcell k n hn)
      have hran := HR.out n (List.mem_of_getElem? hn)
      have hlen := headX_len hran.1 hran.2
      have hcat : ¬ 9223372036854775807 < (ofL (headT n)).size + 1 := by omega
      have HS := Lib.hid (intsX_take t L k n hn)
      have HP := Lib.hid (intsX_part t L (k + 1))
      clear hcell hn
      go_wp2_with fail
      refine (itoa_is HW1.out.vars n hran.1 hran.2).mono ?_
      rintro e w1 ⟨rfl, hb1⟩
      have HW2 := Lib.hid (HW1.out.below hb1)
      have HO2 := Lib.hid (HO.out.trans (OnlyO.of_below (O := O1) hb1) HN.out)
      clear hb1 HW1 HO x0
      have HX := Lib.hid (numX_cat n)
      have hts : T.size + (ofL (headT n) ++ (⟨#[44]⟩ : ByteArray)).size ≤ 140737488355328 := by
        have h1 := HP.out
        rw [HS.out, size_cat, HX.out] at h1
        have h2 := HB.out
        rw [hT.out]
        omega
      go_wp2_with fail
      refine (put_v HW2.out _ hts).mono ?_
      rintro e w2 ⟨rfl, O3, hW3, hN3, hO3⟩
      have HT2 := Lib.hid (show T ++ (ofL (headT n) ++ (⟨#[44]⟩ : ByteArray)) = intsX t (L.take (k + 1)) by rw [HS.out, hT.out, HX.out])
      have HW3 := Lib.hid hW3
      have HN3 := Lib.hid (HN.out.trans hN3 HO2.out.size)
      have HO3 := Lib.hid (HO2.out.trans hO3 HN.out)
      clear hW3 hN3 hO3 HW2 HO2 HN hT HX HS HP hts hcat
      generalize T ++ (ofL (headT n) ++ (⟨#[44]⟩ : ByteArray)) = T2 at *
      go_wp2_with fail
      go_roundw
      case rel => exact ⟨k + 1, O3, T2, by omega, by go_num, HT2, HW3.out, HN3.out, HO3.out⟩
      case measure => simp [intOf]; omega
    · obtain rfl : k = L.length := by omega
      have HT2 := Lib.hid (show T = intsX t L by rw [hT.out, List.take_length])
      clear hT
      go_wp2_with fail
      go_end0
      exact ⟨rfl, O1, by rw [← HT2.out]; exact HW1.out, HN.out, HO.out⟩
/-- The list lies off the Writer's rows. -/
theorem wint_is (h : WrV w O P t) (A : Option Addr) (L : List Int) (c : Nat) (hA : IntsAt w A L) (hAO : Off A O) (hr : ∀ n ∈ L, -9223372036854775808 ≤ n ∧ n ≤ 9223372036854775807) (hL : L.length ≤ 1000000000) (hb : (intsX t L).size ≤ 140737488355328) :
    Calls Tryz.prog 74 #[.pointer (some ⟨P, 0, none⟩), .slice A L.length c] w (WroteV w O P (intsX t L)) := wint_any h A L c hA (fun _ => hAO) hr hL hb
end
end Go.Proofs.YtfjaibaidpbppaaGreatDoor

namespace Go.Proofs.YtfjaibaidpbppaaGreatDoor

/-- What stands between the bytes c of l, which begins at place p. -/
def partsL (c : UInt8) : List UInt8 → Nat → List (List UInt8 × Nat)
  | [], p => [([], p)]
  | b :: l, p => if b = c then ([], p) :: partsL c l (p + 1) else match partsL c l (p + 1) with
    | [] => [([b], p)]
    | (x, _) :: r => (b :: x, p) :: r
theorem partsL_head (c : UInt8) : ∀ (l : List UInt8) (p : Nat), ∃ x r, partsL c l p = (x, p) :: r
  | [], p => ⟨[], [], rfl⟩
  | b :: l, p => by
    rw [partsL]
    by_cases h : b = c
    · rw [if_pos h]; exact ⟨_, _, rfl⟩
    · rw [if_neg h]
      obtain ⟨x, r, e⟩ := partsL_head c l (p + 1)
      rw [e]
      exact ⟨_, _, rfl⟩
theorem partsL_same {c : UInt8} {l : List UInt8} {p : Nat} : partsL c (c :: l) p = ([], p) :: partsL c l (p + 1) := by rw [partsL, if_pos rfl]
theorem partsL_other {c b : UInt8} (h : b ≠ c) {l : List UInt8} {p q : Nat} {x : List UInt8} {r : List (List UInt8 × Nat)} (e : partsL c l (p + 1) = (x, q) :: r) : partsL c (b :: l) p = (b :: x, p) :: r := by
  rw [partsL, if_neg h, e]
theorem partsL_none {c : UInt8} : ∀ (l : List UInt8) (p : Nat), (∀ b ∈ l, b ≠ c) → partsL c l p = [(l, p)]
  | [], _, _ => rfl
  | b :: l, p, h => partsL_other (h b (List.mem_cons_self ..)) (partsL_none l (p + 1) (fun d hd => h d (List.mem_cons_of_mem _ hd)))
theorem partsL_at {c : UInt8} (y : List UInt8) : ∀ (x : List UInt8) (p : Nat), (∀ b ∈ x, b ≠ c) → partsL c (x ++ c :: y) p = (x, p) :: partsL c y (p + x.length + 1)
  | [], p, _ => partsL_same
  | b :: x, p, h => by
    have := partsL_at y x (p + 1) (fun d hd => h d (List.mem_cons_of_mem _ hd))
    rw [List.cons_append, partsL_other (h b (List.mem_cons_self ..)) this]
    rw [show p + 1 + x.length + 1 = p + (b :: x).length + 1 by simp; omega]

def mkW (x : List UInt8 × Nat) : Wd := ⟨ofL x.1, x.2⟩
def some_ (w : Wd) : Bool := !(w.t.size == 0)
/-- The words of a line that begins at p. -/
def wdsL (x : List UInt8) (p : Nat) : List Wd := ((partsL 32 x p).map mkW).filter some_
/-- The lines of a text. -/
def lnsL (l : List UInt8) : List (List Wd) := ((partsL 10 l 0).map fun x => wdsL x.1 x.2).filter fun l => !l.isEmpty

/-- A line that goes on with x, behind words and a part of one. -/
def joinL (line : List Wd) (word : ByteArray) (at_ : Nat) (x : List UInt8) (p : Nat) : List Wd :=
  match partsL 32 x p with
  | [] => line
  | (y, q) :: r => line ++ ((⟨word ++ ofL y, if word = .empty then q else at_⟩ : Wd) :: r.map mkW).filter some_
def restL (line : List Wd) (word : ByteArray) (at_ : Nat) (l : List UInt8) (k : Nat) : List (List Wd) :=
  match partsL 10 l k with
  | [] => []
  | (x, p) :: r => (joinL line word at_ x p :: r.map fun y => wdsL y.1 y.2).filter fun l => !l.isEmpty
theorem joinL_nil (x : List UInt8) (p a : Nat) : joinL [] .empty a x p = wdsL x p := by
  obtain ⟨y, r, e⟩ := partsL_head 32 x p
  unfold joinL wdsL
  rw [e]
  simp [mkW]
theorem restL_nil (l : List UInt8) (a k : Nat) : restL [] .empty a l k = ((partsL 10 l k).map fun x => wdsL x.1 x.2).filter fun l => !l.isEmpty := by
  obtain ⟨y, r, e⟩ := partsL_head 10 l k
  unfold restL
  rw [e]
  simp [joinL_nil]
theorem size_zero {s : ByteArray} : s.size = 0 ↔ s = .empty := ⟨fun h => ByteArray.ext (Array.eq_empty_of_size_eq_zero h), fun h => by rw [h]; rfl⟩
theorem joinL_done (st : LxS) (k : Nat) : joinL st.line st.word st.at_ [] k = st.done := by
  unfold joinL LxS.done
  have : ofL [] = .empty := rfl
  simp only [partsL, this, ByteArray.append_empty, List.map_nil]
  by_cases h : st.word = .empty
  · rw [if_pos h]
    simp [some_, h]
  · rw [if_neg h, if_neg h]
    simp [some_, h]
theorem ofL_cons (b : UInt8) (l : List UInt8) : ofL (b :: l) = ofL [b] ++ ofL l := by
  apply bl_inj
  simp [bl_append, bl_ofL]

/-- May the byte stand in a text? -/
def okB (c : Int) : Prop := c = 10 ∨ (32 ≤ c ∧ c < 127)
theorem lexGo_rest (s : ByteArray) : ∀ (f k : Nat) (st : LxS) (l : List UInt8), k + f = s.size → l = (bl s).drop k → (∀ j, k ≤ j → j < s.size → okB (byL s j)) → lexGo s f k st = .good (st.out ++ restL st.line st.word st.at_ l k)
  | 0, k, st, l, hk, hl, _ => by
    obtain rfl : l = [] := by rw [hl]; exact List.drop_eq_nil_of_le (by rw [bl_len]; omega)
    rw [lexGo_end]
    unfold restL LxS.feed
    simp only [partsL, List.map_nil, joinL_done]
    by_cases h : st.done = []
    · simp [h]
    · have : st.done.isEmpty = false := by cases hd : st.done with
        | nil => exact absurd hd h
        | cons => rfl
      simp [h, this]
  | f + 1, k, st, l, hk, hl, hok => by
    have hlt : k < (bl s).length := by rw [bl_len]; omega
    obtain ⟨b, l', e, hb, hl'⟩ : ∃ b l', l = b :: l' ∧ byL s k = (b.toNat : Int) ∧ l' = (bl s).drop (k + 1) := by
      refine ⟨(bl s)[k], (bl s).drop (k + 1), by rw [hl, List.drop_eq_getElem_cons hlt], ?_, rfl⟩
      unfold byL
      rw [List.getD_eq_getElem?_getD, List.getElem?_eq_getElem hlt]
      rfl
    subst e
    have hx : s.extract k (k + 1) = ofL [b] := by
      apply bl_inj
      rw [bl_extract, bl_ofL, List.drop_take, show k + 1 - k = 1 by omega, ← hl, List.take_succ_cons, List.take_zero]
    have ih := fun st' => lexGo_rest s f (k + 1) st' l' (by omega) hl' (fun j h1 h2 => hok j (by omega) h2)
    have hk0 := hok k (Nat.le_refl _) (by omega)
    rw [hb] at hk0
    obtain ⟨x, r, ex⟩ := partsL_head 10 l' (k + 1)
    obtain ⟨y, r2, ey⟩ := partsL_head 32 x (k + 1)
    by_cases h1 : b = 10
    · subst h1
      rw [lexGo_feed (by rw [hb]; rfl), ih]
      congr 1
      have e1 : restL st.line st.word st.at_ (10 :: l') k = (st.done :: (partsL 10 l' (k + 1)).map fun y => wdsL y.1 y.2).filter fun l => !l.isEmpty := by
        unfold restL
        rw [partsL_same]
        simp only [joinL_done]
      rw [e1]
      show (if st.done = [] then st.out else st.out ++ [st.done]) ++ restL [] .empty _ l' (k + 1) = _
      rw [restL_nil]
      by_cases h : st.done = []
      · simp [h]
      · have : st.done.isEmpty = false := by cases hd : st.done with
          | nil => exact absurd hd h
          | cons => rfl
        simp [h, this]
    · have e2 : ∀ line word at_, restL line word at_ (b :: l') k = (joinL line word at_ (b :: x) k :: r.map fun y => wdsL y.1 y.2).filter fun l => !l.isEmpty := fun line word at_ => by
        unfold restL
        rw [partsL_other h1 ex]
      have e3 : ∀ line word at_, restL line word at_ l' (k + 1) = (joinL line word at_ x (k + 1) :: r.map fun y => wdsL y.1 y.2).filter fun l => !l.isEmpty := fun line word at_ => by
        unfold restL
        rw [ex]
      by_cases h2 : b = 32
      · subst h2
        rw [lexGo_space (by rw [hb]; rfl), ih, e2, e3]
        suffices hJ : joinL st.space.line st.space.word st.space.at_ x (k + 1) = joinL st.line st.word st.at_ (32 :: x) k by
          rw [hJ]
          rfl
        show joinL st.done .empty (if st.word = .empty then st.at_ else 0) x (k + 1) = _
        have e4 : joinL st.line st.word st.at_ (32 :: x) k = st.line ++ ((⟨st.word ++ ofL [], if st.word = .empty then k else st.at_⟩ : Wd) :: (partsL 32 x (k + 1)).map mkW).filter some_ := by
          unfold joinL
          rw [partsL_same]
        have e5 : joinL st.done .empty (if st.word = .empty then st.at_ else 0) x (k + 1) = st.done ++ ((partsL 32 x (k + 1)).map mkW).filter some_ := by
          unfold joinL
          rw [ey]
          simp [mkW]
        rw [e4]
        refine e5.trans ?_
        rw [← joinL_done st k]
        unfold joinL
        simp only [partsL, List.map_nil]
        generalize (⟨st.word ++ ofL [], if st.word = .empty then k else st.at_⟩ : Wd) = W0
        by_cases hW : some_ W0 = true <;> simp [hW]
      · have h3 : 32 < b.toNat := by
          have e10 : b.toNat ≠ 10 := fun e => h1 (UInt8.toNat_inj.1 e)
          have e32 : b.toNat ≠ 32 := fun e => h2 (UInt8.toNat_inj.1 e)
          unfold okB at hk0
          omega
        have h4 : b.toNat < 127 := by unfold okB at hk0; omega
        rw [lexGo_word (by rw [hb]; omega) (by rw [hb]; omega), ih, e2, e3, hx]
        suffices hJ : joinL (st.push (ofL [b]) k).line (st.push (ofL [b]) k).word (st.push (ofL [b]) k).at_ x (k + 1) = joinL st.line st.word st.at_ (b :: x) k by
          rw [hJ]
          rfl
        show joinL st.line (st.word ++ ofL [b]) (if st.word = .empty then k else st.at_) x (k + 1) = _
        unfold joinL
        rw [ey, partsL_other h2 ey]
        have hn : ¬ st.word ++ ofL [b] = .empty := fun e => by
          have := congrArg ByteArray.size e
          rw [ByteArray.size_append] at this
          have h9 : (ofL [b]).size = 1 := rfl
          rw [h9] at this
          simp at this
        simp only [if_neg hn]
        rw [ByteArray.append_assoc, ← ofL_cons]

theorem lexP_long {s : ByteArray} (h : 600 < s.size) : lexP s = .bad 16 600 := if_pos h
theorem lexP_lines {s : ByteArray} (h : s.size ≤ 600) (hok : ∀ j, j < s.size → okB (byL s j)) : lexP s = .good (lnsL (bl s)) := by
  unfold lexP
  rw [if_neg (by omega), lexGo_rest s s.size 0 lx0 (bl s) (by omega) rfl (fun j _ hj => hok j hj)]
  unfold lx0
  rw [List.nil_append, restL_nil]
  rfl
theorem lexGo_stands (s : ByteArray) (k : Nat) (hk : k < s.size) (hn : ¬ okB (byL s k)) : ∀ (d j : Nat) (st : LxS), j + d = k → (∀ i, j ≤ i → i < k → okB (byL s i)) → lexGo s (s.size - j) j st = .bad 3 k
  | 0, j, st, e, _ => by
    obtain rfl : j = k := by omega
    rw [show s.size - j = (s.size - (j + 1)) + 1 by omega]
    unfold okB at hn
    exact lexGo_bad (by omega) (by omega) (by omega)
  | d + 1, j, st, e, hok => by
    have ih := fun st' => lexGo_stands s k hk hn d (j + 1) st' (by omega) (fun i h1 h2 => hok i (by omega) h2)
    have h0 := hok j (Nat.le_refl _) (by omega)
    unfold okB at h0
    rw [show s.size - j = (s.size - (j + 1)) + 1 by omega]
    by_cases h1 : 32 < byL s j ∧ byL s j < 127
    · rw [lexGo_word h1.1 h1.2, ih]
    · by_cases h2 : byL s j = 10
      · rw [lexGo_feed h2, ih]
      · rw [lexGo_space (by omega), ih]
theorem lexP_stands {s : ByteArray} {k : Nat} (h : s.size ≤ 600) (hk : k < s.size) (hn : ¬ okB (byL s k)) (hok : ∀ i, i < k → okB (byL s i)) : lexP s = .bad 3 k := by
  unfold lexP
  rw [if_neg (by omega)]
  exact lexGo_stands s k hk hn k 0 lx0 (by omega) (fun i _ hi => hok i hi)
end Go.Proofs.YtfjaibaidpbppaaGreatDoor
