/-
  The program's Writer: Text, Label. Conditions: how the Writer and the lists lie, what the package-level variables hold, lengths. The laws' first line: a few numbers and a text, written and read. Conditions: what the package-level variables hold. The law CodecOne, walked. No conditions but the numbers' types, and what the package-level variables hold. The law CodecBack, walked. No conditions but how the argument lies in memory, and what the package-level variables hold.
-/
import Derived.Test.YtfjaibaidpbppaaGreatDoorLexS
import Derived.Test.YtfjaibaidpbppaaGreatDoorLexB
import Derived.Test.YtfjaibaidpbppaaGreatDoorFirst
namespace Go.Proofs.YtfjaibaidpbppaaGreatDoor
open Go.RowKit
section
variable {w : World} {O : List Nat} {P : Nat} {t : ByteArray}
theorem ints_made (w : World) (l : List Int) : IntsAt (w.alloc (.cells (l.map (Value.int .i64)).toArray 3)) (some ⟨w.heap.size, 0, none⟩) l := fun _ => ⟨_, rfl, fun i n h => by
  have hadd : (⟨w.heap.size, 0, none⟩ : Addr).add i = ⟨w.heap.size, i, none⟩ := by unfold Addr.add; split <;> simp_all
  rw [hadd]
  have := cellH (made_at w (.cells (l.map (Value.int .i64)).toArray 3)) i
  rw [this]
  simp [h]⟩
theorem off_new (h : WrV w O P t) : Off (some ⟨w.heap.size, 0, none⟩) O := fun ad e hm => by
  obtain rfl := Option.some.inj e
  have := h.wr.low.2 _ hm
  exact absurd this (Nat.lt_irrefl _)
set_option maxHeartbeats 4000000 in
set_option maxRecDepth 100000 in
theorem wtext_is (h : WrV w O P t) (A : Option Addr) (L : List ByteArray) (c : Nat) (hA : TxtsAt w A L) (hAO : Off A O) (hL : L.length ≤ 1000000000) (hb : (txtsX t L).size ≤ 140737488355328) :
    Calls Tryz.prog 58 #[.pointer (some ⟨P, 0, none⟩), .slice A L.length c] w (WroteV w O P (txtsX t L)) := by
  have HA := Lib.hid hA
  have HAO := Lib.hid hAO
  have HB := Lib.hid hb
  have HW := Lib.hid h
  clear hA hAO hb h
  go_enter Tryz.func58, Tryz.ntmps58
  go_wp2_with fail
  go_loopw [10] (fun i wr => ∃ (k : Nat) (O1 : List Nat) (T : ByteArray), k ≤ L.length ∧ i = .int .i64 k ∧ Hid (T = txtsX t (L.take k)) ∧ WrV wr O1 P T ∧ New O O1 w ∧ OnlyO O w wr) (fun i _ => L.length - (intOf i).toNat)
  case atStart => exact ⟨0, O, t, Nat.zero_le _, rfl, rfl, HW.out, New.refl, OnlyO.of_below (Below.refl _ _)⟩
  case round =>
    obtain ⟨k, O1, T, hk, rfl, hT, hW, hN, hO⟩ := hrel
    have HW1 := Lib.hid hW
    have HN := Lib.hid hN
    have HO := Lib.hid hO
    clear hW hN hO HW
    by_cases hlt : k < L.length
    · obtain ⟨s, hs⟩ : ∃ s, L[k]? = some s := ⟨_, List.getElem?_eq_getElem hlt⟩
      obtain ⟨ad, e, hcell⟩ := HA.out (by omega)
      subst e
      have x0 := cell_onlyO HO.out (by
        have := HAO.out ad rfl
        rw [add_block]; exact this) (hcell k s hs)
      have HS := Lib.hid (txtsX_take t L k s hs)
      have HP := Lib.hid (txtsX_part t L (k + 1))
      have hszs : s.size ≤ 140737488355328 := by
        have h1 := HP.out
        have h2 := HB.out
        rw [HS.out, size_cat, size_cat] at h1
        omega
      have hX1 : (intsX T [(s.size : Int)]).size ≤ 140737488355328 := by
        have h1 := HP.out
        have h2 := HB.out
        rw [HS.out, size_cat, size_cat] at h1
        show (T ++ numX s.size).size ≤ _
        rw [size_cat, hT.out]
        omega
      have b1 := (Below.refl _ wr).alloc (Nat.le_refl _) (.cells #[.int .i64 s.size] 3)
      have HI := Lib.hid (show IntsAt (wr.alloc (.cells #[.int .i64 s.size] 3)) (some ⟨wr.heap.size, 0, none⟩) [(s.size : Int)] from ints_made wr [(s.size : Int)])
      have HOF := Lib.hid (off_new HW1.out)
      have HW2 := Lib.hid (HW1.out.below b1)
      have HO2 := Lib.hid (HO.out.trans (OnlyO.of_below (O := O1) b1) HN.out)
      have HX1 := Lib.hid hX1
      clear hcell hs b1 hX1 HW1 HO
      go_wp2_with fail
      refine (wint_is HW2.out _ [(s.size : Int)] 1 HI.out HOF.out (fun n hn => by rw [List.mem_singleton] at hn; omega) (by simp) HX1.out).mono ?_
      rintro e w2 ⟨rfl, O3, hW3, hN3, hO3⟩
      have HW3 := Lib.hid (show WrV w2 O3 P (T ++ numX s.size) from hW3)
      have HN3 := Lib.hid (HN.out.trans hN3 HO2.out.size)
      have HO3 := Lib.hid (HO2.out.trans hO3 HN.out)
      clear hW3 hN3 hO3 HW2 HO2 HI HOF x0 HN
      have hts : (T ++ numX s.size).size + s.size ≤ 140737488355328 := by
        have h1 := HP.out
        have h2 := HB.out
        rw [HS.out, size_cat, size_cat] at h1
        rw [size_cat, hT.out]
        omega
      go_wp2_with fail
      refine (put_v HW3.out s hts).mono ?_
      rintro e w4 ⟨rfl, O4, hW4, hN4, hO4⟩
      have HT2 := Lib.hid (show T ++ numX s.size ++ s = txtsX t (L.take (k + 1)) by
        rw [HS.out, hT.out]
        apply bl_inj
        simp only [bl_append, List.append_assoc])
      have HW4 := Lib.hid hW4
      have HN4 := Lib.hid (HN3.out.trans hN4 HO3.out.size)
      have HO4 := Lib.hid (HO3.out.trans hO4 HN3.out)
      clear hW4 hN4 hO4 HW3 HN3 HO3 hts hT HS HP HX1
      generalize T ++ numX s.size ++ s = T2 at *
      go_wp2_with fail
      go_roundw
      case rel => exact ⟨k + 1, O4, T2, by omega, by go_num, HT2, HW4.out, HN4.out, HO4.out⟩
      case measure => simp [intOf]; omega
    · obtain rfl : k = L.length := by omega
      have HT2 := Lib.hid (show T = txtsX t L by rw [hT.out, List.take_length])
      clear hT
      go_wp2_with fail
      go_end0
      exact ⟨rfl, O1, by rw [← HT2.out]; exact HW1.out, HN.out, HO.out⟩
set_option maxHeartbeats 4000000 in
set_option maxRecDepth 100000 in
theorem wlabel_is (h : WrV w O P t) (a b : Int) (ha0 : -9223372036854775808 ≤ a) (ha1 : a ≤ 9223372036854775807) (hb0 : 0 ≤ b) (hb1 : b ≤ 65535) (hb : (intsX t [a, b]).size ≤ 140737488355328) :
    Calls Tryz.prog 90 #[.pointer (some ⟨P, 0, none⟩), .agg #[.int .i64 a, .int .u16 b]] w (WroteV w O P (intsX t [a, b])) := by
  have l1 := (Below.refl w.heap.size w).alloc (Nat.le_refl _) (.cells #[.int .i64 a, .int .u16 b] 63)
  have l2 := (Below.refl _ (w.alloc (.cells #[.int .i64 a, .int .u16 b] 63))).alloc (Nat.le_refl _) (.cells #[.int .i64 a, .int .i64 b] 3)
  have h1 := h.below l1
  have HOF := Lib.hid (off_new h1)
  have HW2 := Lib.hid (h1.below l2)
  have HL := Lib.hid (below_step l1 l2)
  have HI := Lib.hid (ints_made (w.alloc (.cells #[.int .i64 a, .int .u16 b] 63)) [a, b])
  have e1 : (w.alloc (.cells #[.int .i64 a, .int .u16 b] 63)).heap.size = w.heap.size + 1 := by simp
  rw [e1] at HI HOF
  have HBB := Lib.hid hb
  clear h l1 l2 h1 e1 hb
  have hw : IntKind.i64.wrap b = b := IntWalk.i64_in _ (by omega)
  go_enter Tryz.func90, Tryz.ntmps90
  go_wp2_with fail
  refine (wint_is HW2.out _ [a, b] 2 HI.out HOF.out (fun n hn => by
    simp only [List.mem_cons, List.not_mem_nil, or_false] at hn
    rcases hn with rfl | rfl <;> omega) (by simp) HBB.out).mono ?_
  rintro e w2 ⟨rfl, O3, hW3, hN3, hO3⟩
  have HW3 := Lib.hid hW3
  have HN3 := Lib.hid (show New O O3 w from New.trans (New.refl (a := w)) hN3 HL.out.size)
  have HO3 := Lib.hid ((OnlyO.of_below (O := O) HL.out).trans hO3 New.refl)
  clear hW3 hN3 hO3 HW2 HI HOF HL
  go_wp2_with fail
  go_end0
  exact ⟨rfl, O3, HW3.out, HN3.out, HO3.out⟩
end
end Go.Proofs.YtfjaibaidpbppaaGreatDoor

namespace Go.Proofs.YtfjaibaidpbppaaGreatDoor
open Go.RowKit
section
variable {w : World} {R : Nat} {s : ByteArray} {b : Bool}
theorem rd_ok (h : RdAt w R s b) : Calls Tryz.prog 20 #[.pointer (some ⟨R, 0, none⟩)] w fun e w' => e = .returned (.bool (!b)) ∧ Below w.heap.size w w' :=
  (ok_is h).mono fun _ _ ⟨he, hw⟩ => ⟨he, by subst hw; exact Below.refl _ _⟩
end
theorem numS (n : Nat) (h : n < 10) : numX (n : Int) = ⟨#[UInt8.ofNat (48 + n), 44]⟩ := by
  apply bl_inj
  rw [bl_numX]
  unfold numT
  rw [if_neg (by omega), Int.natAbs_natCast, digN_low h]
  rfl
theorem numM1 : numX (-1) = ⟨#[45, 49, 44]⟩ := by
  apply bl_inj
  rw [bl_numX]
  unfold numT
  rw [if_pos (by decide), show (-1 : Int).natAbs = 1 from rfl, digN_low (by decide)]
  rfl
abbrev abB : ByteArray := ⟨#[97, 98]⟩
abbrev s3B : ByteArray := ⟨#[50, 44, 97, 98]⟩
abbrev s2B : ByteArray := ⟨#[45, 49, 44, 50, 44, 97, 98]⟩
abbrev s1B : ByteArray := ⟨#[53, 44, 45, 49, 44, 50, 44, 97, 98]⟩
theorem s1_is : txtsX (intsX .empty [5, -1]) [abB] = s1B := by
  simp only [txtsX, intsX, List.foldl]
  rw [show (5 : Int) = ((5 : Nat) : Int) from rfl, numS 5 (by decide), numM1, show (abB.size : Int) = ((2 : Nat) : Int) from rfl, numS 2 (by decide)]
  rfl
theorem s1_takes : Takes (bl s1B) 0 9 (some (5, bl s2B)) := .inl ⟨5, bl s2B, by decide, by decide, by rw [← bl_numX, show (5 : Int) = ((5 : Nat) : Int) from rfl, numS 5 (by decide)]; rfl, by decide, by decide, rfl⟩
theorem s2_takes : Takes (bl s2B) (-1) 0 (some (-1, bl s3B)) := .inl ⟨-1, bl s3B, by decide, by decide, by rw [← bl_numX, numM1]; rfl, by decide, by decide, rfl⟩
theorem s3_takes : Takes (bl s3B) 0 2 (some (2, bl abB)) := .inl ⟨2, bl abB, by decide, by decide, by rw [← bl_numX, show (2 : Int) = ((2 : Nat) : Int) from rfl, numS 2 (by decide)]; rfl, by decide, by decide, rfl⟩
theorem nought_takes : Takes (bl ⟨#[48, 53, 44]⟩) 0 9 none := .inr ⟨fun ⟨n, x, _, _, h, h0, _⟩ => by
  rw [numT_head, List.append_assoc] at h
  have h2 : ([48, 53] : List UInt8) ++ 44 :: [] = headT n ++ 44 :: x := h
  obtain ⟨h3, _⟩ := split_first (by decide) (headT_none n) h2
  unfold headT at h3
  rw [if_neg (by omega)] at h3
  have h4 := congrArg valD h3
  simp only [List.nil_append] at h3
  have h5 : valD ([] ++ digN n.natAbs) = n.natAbs := digN_val _
  rw [h5] at h4
  have h6 : n.natAbs = 5 := h4.symm
  rw [h6, digN_low (by decide)] at h3
  exact absurd h3 (by decide), rfl⟩

end Go.Proofs.YtfjaibaidpbppaaGreatDoor

namespace Go.Proofs.YtfjaibaidpbppaaGreatDoor
open Go.RowKit

theorem keepV : ∀ v v' : World, VarsAt v → Below v.heap.size v v' → VarsAt v' := fun _ _ h hb => h.later hb
theorem WrV.beside {w w' : World} {O O' : List Nat} {P : Nat} {t : ByteArray} (h : WrV w O P t) (ho : OnlyO O' w w') (hd : ∀ i ∈ O, i ∉ O') (hV : VarsAt w') : WrV w' O P t := ⟨h.wr.beside ho hd, hV, h.no⟩
theorem ints_one (n : Int) : intsX .empty [n] = numX n := by
  apply bl_inj
  simp only [intsX, List.foldl]
  rw [bl_append]
  rfl
/-- Unlike numbers' texts stay unlike, however far they are read. -/
theorem num_apart {a b : Int} (h : a ≠ b) (k : Nat) (hk : k = min (numX a).size (numX b).size) : (numX a).extract 0 k ≠ (numX b).extract 0 k := by
  intro e
  have e2 := congrArg bl e
  rw [bl_extract, bl_extract, List.drop_zero, List.drop_zero] at e2
  have la := bl_len (numX a)
  have lb := bl_len (numX b)
  rw [bl_numX] at e2 la
  rw [bl_numX] at e2 lb
  apply h
  by_cases hle : (numX a).size ≤ (numX b).size
  · have hk2 : k = (numT a).length := by omega
    rw [List.take_of_length_le (l := numT a) (by omega)] at e2
    have := List.take_append_drop k (numT b)
    rw [← e2] at this
    exact (numT_front (y := []) (this.trans (List.append_nil _).symm)).1
  · have hk2 : k = (numT b).length := by omega
    rw [List.take_of_length_le (l := numT b) (by omega)] at e2
    have := List.take_append_drop k (numT a)
    rw [e2] at this
    exact (numT_front (y := []) (this.trans (List.append_nil _).symm)).1.symm

section
variable {w : World}
end
end Go.Proofs.YtfjaibaidpbppaaGreatDoor

namespace Go.Proofs.YtfjaibaidpbppaaGreatDoor
open Go.RowKit

/-- What the document writes of one call. -/
def levX (a : Int) : Int := a % 8
def opX (o : COp) : ByteArray := if o.k = 1 then numX o.n else if o.k = 2 then numX o.s.size ++ o.s else numX (levX o.a) ++ numX o.b
def headX (op : Nat → COp) : Nat → ByteArray
  | 0 => .empty
  | k + 1 => headX op k ++ opX (op k)
def tailX (op : Nat → COp) : Nat → Nat → ByteArray
  | 0, _ => .empty
  | m + 1, k => opX (op k) ++ tailX op m (k + 1)
theorem head_tail (op : Nat → COp) : ∀ m k : Nat, headX op k ++ tailX op m k = headX op (k + m) := by
  intro m
  induction m with
  | zero => intro k; apply bl_inj; rw [bl_append]; exact List.append_nil _
  | succ m ih =>
    intro k
    have h := ih (k + 1)
    rw [show k + 1 + m = k + (m + 1) by omega] at h
    rw [← h]
    apply bl_inj
    simp only [tailX, headX, bl_append, List.append_assoc]
theorem opX_size {o : COp} (ho : o.Ok) (hs : o.s.size ≤ 300) : (opX o).size ≤ 342 := by
  unfold opX
  split
  · have := numX_len ho.n0 ho.n1; omega
  · split
    · have := numX_len (n := (o.s.size : Int)) (by omega) (by omega); rw [ByteArray.size_append]; omega
    · have h1 := numX_len (n := levX o.a) (by unfold levX; omega) (by unfold levX; omega)
      have h2 := numX_len (n := o.b) (by have := ho.b0; omega) (by have := ho.b1; omega)
      rw [ByteArray.size_append]; omega
theorem headX_size {op : Nat → COp} {n : Nat} (h : ∀ i, i < n → (opX (op i)).size ≤ 342) : ∀ k, k ≤ n → (headX op k).size ≤ 342 * k := by
  intro k
  induction k with
  | zero => intro _; exact Nat.le_refl _
  | succ k ih =>
    intro hk
    have h1 := ih (by omega)
    have h2 := h k (by omega)
    simp only [headX]
    rw [ByteArray.size_append]
    omega
theorem tailX_size {op : Nat → COp} {n : Nat} (h : ∀ i, i < n → (opX (op i)).size ≤ 342) : ∀ m k, k + m ≤ n → (tailX op m k).size ≤ 342 * m := by
  intro m
  induction m with
  | zero => intro k _; exact Nat.le_refl _
  | succ m ih =>
    intro k hk
    have h1 := ih (k + 1) (by omega)
    have h2 := h k (by omega)
    simp only [tailX]
    rw [ByteArray.size_append]
    omega
theorem take_num {n lo hi : Int} (T : ByteArray) (h0 : -9223372036854775808 ≤ n) (h1 : n ≤ 9223372036854775807) (h2 : lo ≤ n) (h3 : n ≤ hi) : Takes (bl (numX n ++ T)) lo hi (some (n, bl T)) :=
  .inl ⟨n, bl T, h0, h1, by rw [bl_append, bl_numX], h2, h3, rfl⟩
theorem iS_num (S T : ByteArray) (n : Int) : iS S false (some (n, bl T)) = T := ofL_bl T
theorem t_text (S s T : ByteArray) : tV false (some ((s.size : Int), bl (s ++ T))) = s ∧ tS S false (some ((s.size : Int), bl (s ++ T))) = T ∧ tB false (some ((s.size : Int), bl (s ++ T))) = false := by
  have h : ¬ ((bl (s ++ T)).length : Int) < (s.size : Int) := by rw [bl_append, List.length_append, bl_len, bl_len]; omega
  simp only [tV, tS, tB, rtT, rtS, rtB, Bool.false_eq_true, if_false, if_neg h, decide_eq_false h, Bool.or_self, Int.toNat_natCast]
  refine ⟨?_, ?_, trivial⟩
  · apply bl_inj
    rw [bl_ofL, bl_append, ← bl_len, List.take_left]
  · apply bl_inj
    rw [bl_ofL, bl_append, ← bl_len, List.drop_left]

/-- The Writer holds T; what it holds in memory is new since w, and below m. -/
def WrB (w W : World) (m P : Nat) (T : ByteArray) : Prop := ∃ O, WrV W O P T ∧ ∀ i ∈ O, w.heap.size ≤ i ∧ i < m
section
variable {w W V : World} {m P : Nat} {T : ByteArray}
theorem WrB.below (h : WrB w W m P T) (hb : Below W.heap.size W V) : WrB w V m P T := by
  obtain ⟨O, h1, h2⟩ := h
  exact ⟨O, h1.below hb, h2⟩
theorem WrB.top (h : WrB w W m P T) : WrB w W W.heap.size P T := by
  obtain ⟨O, h1, h2⟩ := h
  exact ⟨O, h1, fun i hi => ⟨(h2 i hi).1, h1.wr.low.2 i hi⟩⟩
/-- What a call of the Writer leaves. -/
def WroteB (w W : World) (m P : Nat) (T : ByteArray) (e : Ending) (w' : World) : Prop :=
  e = .returned (.tuple #[]) ∧ WrB w w' w'.heap.size P T ∧ Below w.heap.size w w' ∧ ∀ j o, m ≤ j → W.heap[j]? = some o → w'.heap[j]? = some o
theorem wroteB {O : List Nat} {T2 : ByteArray} (hl : Below w.heap.size w W) (hO : ∀ i ∈ O, w.heap.size ≤ i ∧ i < m) {e : Ending} {w' : World} (g : WroteV W O P T2 e w') : WroteB w W m P T2 e w' := by
  obtain ⟨he, O', h1, h2, h3⟩ := g
  refine ⟨he, ⟨O', h1, fun i hi => ⟨?_, h1.wr.low.2 i hi⟩⟩, h3.low hl fun i hi => (hO i hi).1, fun j o hj ho => ?_⟩
  · rcases h2 i hi with h | h
    · exact (hO i h).1
    · exact Nat.le_trans hl.size h
  · rw [h3.block j (Array.getElem?_eq_some_iff.1 ho).1 (fun hm => by have := (hO j hm).2; omega)]
    exact ho
theorem off_of {O : List Nat} {A : Option Addr} (hO : ∀ i ∈ O, w.heap.size ≤ i ∧ i < m) (hA : ∀ ad, A = some ad → m ≤ ad.block) : Off A O := fun ad e hm => by
  have h1 := (hO _ hm).2
  have h2 := hA ad e
  omega
theorem wb_int (h : WrB w W m P T) (hl : Below w.heap.size w W) (A : Option Addr) (L : List Int) (c : Nat) (hA : IntsAt W A L) (hm : ∀ ad, A = some ad → m ≤ ad.block) (hr : ∀ n ∈ L, -9223372036854775808 ≤ n ∧ n ≤ 9223372036854775807) (hL : L.length ≤ 1000000000) (hb : (intsX T L).size ≤ 140737488355328) :
    Calls Tryz.prog 74 #[.pointer (some ⟨P, 0, none⟩), .slice A L.length c] W (WroteB w W m P (intsX T L)) := by
  obtain ⟨O, h1, h2⟩ := h
  exact (wint_is h1 A L c hA (off_of h2 hm) hr hL hb).mono fun _ _ g => wroteB hl h2 g
theorem wb_text (h : WrB w W m P T) (hl : Below w.heap.size w W) (A : Option Addr) (L : List ByteArray) (c : Nat) (hA : TxtsAt W A L) (hm : ∀ ad, A = some ad → m ≤ ad.block) (hL : L.length ≤ 1000000000) (hb : (txtsX T L).size ≤ 140737488355328) :
    Calls Tryz.prog 58 #[.pointer (some ⟨P, 0, none⟩), .slice A L.length c] W (WroteB w W m P (txtsX T L)) := by
  obtain ⟨O, h1, h2⟩ := h
  exact (wtext_is h1 A L c hA (off_of h2 hm) hL hb).mono fun _ _ g => wroteB hl h2 g
theorem wb_label (h : WrB w W m P T) (hl : Below w.heap.size w W) (a b : Int) (ha0 : -9223372036854775808 ≤ a) (ha1 : a ≤ 9223372036854775807) (hb0 : 0 ≤ b) (hb1 : b ≤ 65535) (hb : (intsX T [a, b]).size ≤ 140737488355328) :
    Calls Tryz.prog 90 #[.pointer (some ⟨P, 0, none⟩), .agg #[.int .i64 a, .int .u16 b]] W (WroteB w W m P (intsX T [a, b])) := by
  obtain ⟨O, h1, h2⟩ := h
  exact (wlabel_is h1 a b ha0 ha1 hb0 hb1 hb).mono fun _ _ g => wroteB hl h2 g
theorem WrB.str (h : WrB w W m P T) : Calls Tryz.prog 46 #[.pointer (some ⟨P, 0, none⟩)] W fun e w' => e = .returned (.string T) ∧ Below W.heap.size W w' := by
  obtain ⟨O, h1, _⟩ := h
  exact str_is h1.wr
/-- The Writer holds T, and nothing that was there has turned. -/
def BkI (w : World) (P : Nat) (T : ByteArray) (W : World) : Prop := WrB w W W.heap.size P T ∧ Below w.heap.size w W
theorem BkI.below (h : BkI w P T W) (hb : Below W.heap.size W V) : BkI w P T V := ⟨(h.1.below hb).top, below_step h.2 hb⟩
end

section
variable {w : World} {A : Option Addr} {n c : Nat} {op : Nat → COp}
end
end Go.Proofs.YtfjaibaidpbppaaGreatDoor
