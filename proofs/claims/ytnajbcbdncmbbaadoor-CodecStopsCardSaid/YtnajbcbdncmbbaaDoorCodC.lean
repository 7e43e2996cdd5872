/-
  What the document's Reader.Int (package lockageref06) answers and leaves, of one that has met nothing wrong. No conditions but how the reader lies, and a text's length.
-/
import Derived.Test.YtnajbcbdncmbbaaDoorCodB
import Derived.Test.YtnajbcbdncmbbaaDoorCodR
import Derived.Deep.WholeRow
namespace Go.Proofs.YtnajbcbdncmbbaaDoor
open Go.RowKit

/-- Only block R may have turned; new ones may be there. -/
structure Only1 (R : Nat) (w w' : World) : Prop where
  os : w'.os = w.os
  tape : w'.tape = w.tape
  output : w'.output = w.output
  size : w.heap.size ≤ w'.heap.size
  block : ∀ i, i < w.heap.size → i ≠ R → w'.heap[i]? = w.heap[i]?
theorem Only1.of_below {R : Nat} {w w' : World} (h : Below w.heap.size w w') : Only1 R w w' := ⟨h.os, h.tape, h.output, h.size, fun i hi _ => h.block i hi⟩
theorem Only1.trans {R : Nat} {a b c : World} (h : Only1 R a b) (k : Only1 R b c) : Only1 R a c :=
  ⟨k.os.trans h.os, k.tape.trans h.tape, k.output.trans h.output, Nat.le_trans h.size k.size, fun i hi hn => (k.block i (Nat.lt_of_lt_of_le hi h.size) hn).trans (h.block i hi hn)⟩
theorem Only1.set {R i : Nat} {w : World} (v : Value) : Only1 R w (w.setCell ⟨R, i, none⟩ v) := by
  have hs : (w.setCell ⟨R, i, none⟩ v).heap.size = w.heap.size := by simp [World.setCell]
  exact ⟨rfl, rfl, rfl, by rw [hs]; exact Nat.le_refl _, fun j _ hn => Below.heap_setCell w ⟨R, i, none⟩ v j (by simpa using hn)⟩
theorem row_set {w : World} {g : Nat} {cs : Array Value} {t : TypeId} {m : Nat × Nat} (hg : w.heap[g]? = some (.cells cs t m)) {i : Nat} {v : Value} : (w.setCell ⟨g, i, none⟩ v).heap[g]? = some (.cells (cs.setIfInBounds i v) t m) := by
  rw [setCell_eq_setRow w g i cs t m v hg]
  exact setRow_heap _ _ _ _ _ _ hg
/-- What is answered, and left. -/
def rdN (r : Option (Int × List UInt8)) : Int := match r with | some (n, _) => n | none => 0
def rdS (S : ByteArray) (r : Option (Int × List UInt8)) : ByteArray := match r with | some (_, x) => ofL x | none => S
theorem some_comma {S : ByteArray} {lo hi m : Int} {rest : List UInt8} (h : Takes (bl S) lo hi (some (m, rest))) : ∃ j, j ≤ 20 ∧ j < S.size ∧ byI S j = 44 := by
  rcases h with ⟨n, x, a1, a2, a3, _, _, e⟩ | ⟨_, e⟩
  · have hl := headT_len a1 a2
    have hk : (bl S)[(headT n).length]? = some 44 := by
      rw [a3, numT_head, List.append_assoc, List.getElem?_append_right (Nat.le_refl _), Nat.sub_self]
      rfl
    have hlt := (List.getElem?_eq_some_iff.1 hk).1
    rw [bl_len] at hlt
    obtain ⟨c, h1, h2⟩ := byI_get hlt
    rw [hk] at h1
    obtain rfl := Option.some.inj h1
    exact ⟨_, hl.2, hlt, h2⟩
  · cases e
theorem byI_comma {S : ByteArray} {k : Nat} (hk : k < S.size) (h : byI S k = 44) : (bl S)[k]? = some 44 := by
  obtain ⟨c, h1, h2⟩ := byI_get hk
  rw [h1, byte_is (c := c) (k := 44) (by omega) (by omega)]
  rfl

section
variable {w : World} {R : Nat} {S : ByteArray}
set_option maxHeartbeats 4000000 in
set_option maxRecDepth 100000 in
theorem refrint_good (h : w.heap[R]? = some (.cells #[.string S, .bool false] 45 (0, 0))) (lo hi : Int) (r : Option (Int × List UInt8)) (hr : Takes (bl S) lo hi r) (hS : S.size ≤ 1000000) :
    Calls Tryd.prog 22 #[.pointer (some ⟨R, 0, none⟩), .int .i64 lo, .int .i64 hi] w fun e w' => e = .returned (.int .i64 (rdN r)) ∧ w'.heap[R]? = some (.cells #[.string (rdS S r), .bool r.isNone] 45 (0, 0)) ∧ Only1 R w w' := by
  have HH := Lib.hid h
  have HR := Lib.hid hr
  have z0 := cellH h 0
  have z1 := cellH h 1
  have zf := freeH h
  simp at z0 z1
  have hB : ∀ (i : Nat) (h : i < S.size), ((S[i]'h).toNat : Int) = byI S i := byI_at S
  have NONE := Lib.hid (show r = none → (w.setCell ⟨R, 1, none⟩ (.bool true)).heap[R]? = some (.cells #[.string (rdS S r), .bool r.isNone] 45 (0, 0)) ∧ rdN r = 0 from fun e => by
    subst e
    exact ⟨by rw [row_set h]; rfl, rfl⟩)
  clear h hr
  go_enter Tryd.func22, Tryd.ntmps22
  go_wp2_with fail
  go_loopw [8] (fun a wr => ∃ k : Nat, a = .int .i64 k ∧ k ≤ 21 ∧ k ≤ S.size ∧ Hid (∀ j, j < k → byI S j ≠ 44) ∧ wr = w) (fun a _ => 22 - (intOf a).toNat)
  case atStart => exact ⟨0, rfl, by omega, by omega, Lib.hid (fun j hj => absurd hj (by omega)), rfl⟩
  case round =>
    obtain ⟨k, rfl, hk, hks, hno, hw⟩ := hrel
    subst hw
    by_cases hlt : k < S.size
    · by_cases hc : byI S k = 44
      · by_cases h21 : k < 21
        · have hkc := byI_comma hlt hc
          have hbe : ∀ j, j < k → (bl S)[j]? ≠ some 44 := fun j hj e => by
            obtain ⟨c, g1, g2⟩ := byI_get (s := S) (i := j) (by omega)
            rw [e] at g1
            obtain rfl := Option.some.inj g1
            exact hno.out j hj g2
          have hblT : bl (S.extract 0 k) = (bl S).take k := by rw [bl_extract, List.drop_zero]
          have HSOME := Lib.hid (show ∀ m rest, r = some (m, rest) → bl (S.extract 0 k) = headT m ∧ lo ≤ m ∧ m ≤ hi ∧ -9223372036854775808 ≤ m ∧ m ≤ 9223372036854775807 ∧ rest = (bl S).drop (k + 1) from fun m rest e => by
            have h1 := HR.out
            rw [e] at h1
            rcases h1 with ⟨n, x, a1, a2, a3, a4, a5, e2⟩ | ⟨_, e2⟩
            · obtain ⟨rfl, rfl⟩ := Prod.mk.inj (Option.some.inj e2)
              obtain ⟨b1, b2⟩ := num_at hkc hbe a3
              exact ⟨by rw [hblT]; exact b1, a4, a5, a1, a2, b2⟩
            · cases e2)
          have HBACK := Lib.hid (show ∀ x : Int, -9223372036854775808 ≤ x → x ≤ 9223372036854775807 → bl (S.extract 0 k) ++ [44] = numT x → lo ≤ x → x ≤ hi → r = some (x, (bl S).drop (k + 1)) from fun x g1 g2 g3 g4 g5 => by
            rw [hblT] at g3
            exact takes_one HR.out (.inl ⟨x, _, g1, g2, num_back hkc g3, g4, g5, rfl⟩))
          have hts : (S.extract 0 k).size = k := by rw [ByteArray.size_extract]; omega
          clear hkc hbe hblT hno
          go_upto_region 9 with fail
          rename ¬S.size ≤ k ∧ (k : Int) < 21 => hgd
          clear hgd
          generalize S.extract 0 k = T at *
          have hBt : ∀ (i : Nat) (h : i < T.size), ((T[i]'h).toNat : Int) = byI T i := byI_at T
          by_cases hk0 : k = 0
          · have HNB := Lib.hid (show (bl T)[0]? ≠ some 45 from fun e => by
              have := (List.getElem?_eq_some_iff.1 e).1
              rw [bl_len] at this
              omega)
            have GOOD := Lib.hid (show ∀ (i cn : Nat), 0 ≤ i → i < k → byI T i = (cn : Int) → r = none ∨ (48 ≤ cn ∧ cn ≤ 57 ∧ 10 * upTo (bl T) 0 i + (cn - 48) ≤ 9223372036854775808) from fun i cn g1 g2 g3 => by
              cases hrr : r with
              | none => exact .inl rfl
              | some q =>
                obtain ⟨m, rest⟩ := q
                obtain ⟨a1, _, _, a4, a5, _⟩ := HSOME.out m rest hrr
                obtain ⟨c, e1, e2⟩ := byI_get (s := T) (i := i) (by omega)
                have e3 : c.toNat = cn := by omega
                have hm : ¬ m < 0 := by rw [← head_neg, ← a1]; exact HNB.out
                have hd := head_drop m
                rw [if_neg hm, ← a1] at hd
                have h1 := upTo_le (b := 0) g1 e1
                rw [a1] at e1
                have h2 := head_digit e1 (fun h => by omega)
                rw [hd] at h1
                exact .inr ⟨by omega, by omega, by omega⟩)
            have ENDS := Lib.hid (show ∀ m rest, r = some (m, rest) → m = (upTo (bl T) 0 k : Int) from fun m rest hrr => by
              obtain ⟨a1, _, _, a4, a5, _⟩ := HSOME.out m rest hrr
              have hm : ¬ m < 0 := by rw [← head_neg, ← a1]; exact HNB.out
              have hd := head_drop m
              rw [if_neg hm, ← a1] at hd
              have hu := upTo_all (bl T) 0
              rw [bl_len, hts, hd] at hu
              omega)
            go_wp2_with fail
            go_loopw [7, 11] (fun a7 a11 wv => ∃ (i v : Nat), a11 = .int .i64 i ∧ a7 = .int .i64 (-(v : Int)) ∧ i ≤ k ∧ Hid (0 ≤ i → v = upTo (bl T) 0 i) ∧ (i < 0 → v = 0) ∧ v ≤ 9223372036854775808 ∧ wv = wr) (fun _ i _ => k - (intOf i).toNat)
            case atStart => exact ⟨0, 0, rfl, rfl, by omega, Lib.hid (fun h => (upTo_start _ _).symm), fun _ => rfl, by omega, rfl⟩
            case round =>
              obtain ⟨i, v, rfl, rfl, hik, hv1, hv2, hv3, hw⟩ := hrel
              subst hw
              by_cases hlt2 : i < k
              · exact absurd hlt2 (by omega)
              · obtain rfl : i = k := by omega
                have hvk := Lib.hid (hv1.out (by omega))
                clear hv1 hv2 hlt2
                by_cases hmin : v = 9223372036854775808
                · have HNO := Lib.hid (show r = none from by
              cases hrr : r with
              | none => rfl
              | some q =>
                obtain ⟨m, rest⟩ := q
                have e1 := ENDS.out m rest hrr
                obtain ⟨_, _, _, _, a5, _⟩ := HSOME.out m rest hrr
                have e2 := hvk.out
                omega)
                  go_wp2_with fail
                  go_ret
                  exact ⟨by rw [(NONE.out HNO.out).2]; rfl, (NONE.out HNO.out).1, Only1.set _⟩
                have RN := Lib.hid (fun W : World => refnum_is (v : Int) (by omega) (by omega) W)
                have hcat : ¬ 9223372036854775807 < T.size + 1 := by omega
                have heq : ¬ numX (v : Int) = T ++ (⟨#[44]⟩ : ByteArray) := fun e => by
                  have e1 : (bl (numX (v : Int))).length = (bl (T ++ (⟨#[44]⟩ : ByteArray))).length := by rw [e]
                  rw [bl_numX, bl_append, numT_head, List.length_append, List.length_append, bl_len] at e1
                  have := (headT_len (n := (v : Int)) (by omega) (by omega)).1
                  have e2 : (bl (⟨#[44]⟩ : ByteArray)).length = 1 := rfl
                  have e3 : ([44] : List UInt8).length = 1 := rfl
                  omega
                have hqb : ((numX (v : Int)).toList == (T ++ (⟨#[44]⟩ : ByteArray)).toList) = false := by rw [ba_beq]; exact decide_eq_false heq
                have HNE := Lib.hid heq
                clear heq
                go_wp2_with fail
                refine (RN.out _).mono ?_
                rintro e w5 ⟨rfl, hb5⟩
                have HB5 := Lib.hid hb5
                have HR5 := Lib.hid (later_at hb5 HH.out)
                clear hb5 RN z0 z1 zf
                have z0 := cellH HR5.out 0
                have z1 := cellH HR5.out 1
                have zf := freeH HR5.out
                simp at z0 z1
                have HNO := Lib.hid (show r = none from by
                  cases hrr : r with
                  | none => rfl
                  | some q =>
                    obtain ⟨m, rest⟩ := q
                    have e1 := ENDS.out m rest hrr
                    obtain ⟨a1, a2, a3, _, _, _⟩ := HSOME.out m rest hrr
                    have e2 := hvk.out
                    exfalso
                    apply HNE.out
                    apply bl_inj
                    rw [bl_numX, bl_append, a1, numT_head]
                    rw [show (v : Int) = m by omega]
                    rfl)
                go_wp2_with fail
                go_ret
                exact ⟨by rw [(NONE.out HNO.out).2]; rfl, by rw [row_set HR5.out, HNO.out]; rfl, (Only1.of_below HB5.out).trans (Only1.set _)⟩
          · have hk1 : 0 < k := by omega
            by_cases hq : byI T 0 = 45
            · have HNB := Lib.hid (show (bl T)[0]? = some 45 from by
                obtain ⟨c, g1, g2⟩ := byI_get (s := T) (i := 0) (by omega)
                rw [g1, byte_is (c := c) (k := 45) (by omega) (by omega)]
                rfl)
              have GOOD := Lib.hid (show ∀ (i cn : Nat), 1 ≤ i → i < k → byI T i = (cn : Int) → r = none ∨ (48 ≤ cn ∧ cn ≤ 57 ∧ 10 * upTo (bl T) 1 i + (cn - 48) ≤ 9223372036854775808) from fun i cn g1 g2 g3 => by
                cases hrr : r with
                | none => exact .inl rfl
                | some q =>
                  obtain ⟨m, rest⟩ := q
                  obtain ⟨a1, _, _, a4, a5, _⟩ := HSOME.out m rest hrr
                  obtain ⟨c, e1, e2⟩ := byI_get (s := T) (i := i) (by omega)
                  have e3 : c.toNat = cn := by omega
                  have hm : m < 0 := by rw [← head_neg, ← a1]; exact HNB.out
                  have hd := head_drop m
                  rw [if_pos hm, ← a1] at hd
                  have h1 := upTo_le (b := 1) g1 e1
                  rw [a1] at e1
                  have h2 := head_digit e1 (fun h => by omega)
                  rw [hd] at h1
                  exact .inr ⟨by omega, by omega, by omega⟩)
              have ENDS := Lib.hid (show ∀ m rest, r = some (m, rest) → m = -(upTo (bl T) 1 k : Int) from fun m rest hrr => by
                obtain ⟨a1, _, _, a4, a5, _⟩ := HSOME.out m rest hrr
                have hm : m < 0 := by rw [← head_neg, ← a1]; exact HNB.out
                have hd := head_drop m
                rw [if_pos hm, ← a1] at hd
                have hu := upTo_all (bl T) 1
                rw [bl_len, hts, hd] at hu
                omega)
              go_wp2_with fail
              go_loopw [7, 11] (fun a7 a11 wv => ∃ (i v : Nat), a11 = .int .i64 i ∧ a7 = .int .i64 (-(v : Int)) ∧ i ≤ k ∧ Hid (1 ≤ i → v = upTo (bl T) 1 i) ∧ (i < 1 → v = 0) ∧ v ≤ 9223372036854775808 ∧ wv = wr) (fun _ i _ => k - (intOf i).toNat)
              case atStart => exact ⟨0, 0, rfl, rfl, by omega, Lib.hid (fun h => absurd h (by omega)), fun _ => rfl, by omega, rfl⟩
              case round =>
                obtain ⟨i, v, rfl, rfl, hik, hv1, hv2, hv3, hw⟩ := hrel
                subst hw
                by_cases hlt2 : i < k
                · by_cases hi0 : i = 0
                  · subst hi0
                    have hv0 : v = 0 := hv2 (by omega)
                    subst hv0
                    clear hv1 hv2
                    have hup := Lib.hid (show 1 ≤ 0 + 1 → 0 = upTo (bl T) 1 (0 + 1) from fun _ => (upTo_start _ _).symm)
                    go_wp2_with fail
                    go_roundw
                    case rel => exact ⟨0 + 1, 0, by go_num, rfl, by omega, hup, fun h => absurd h (by omega), by omega, by first | rfl | trivial⟩
                    case measure => simp [intOf]; omega
                  · have hi1 : 1 ≤ i := by omega
                    clear hv2
                    obtain ⟨cn, hcn⟩ : ∃ cn : Nat, byI T i = cn := ⟨(byI T i).toNat, by have := byI_range T i; omega⟩
                    have hcn2 : cn ≤ 255 := by have := byI_range T i; omega
                    have GD := GOOD.out i cn (by omega) hlt2 hcn
                    rw [← hv1.out (by omega)] at GD
                    by_cases hc1 : cn < 48
                    · have HNO := Lib.hid (show r = none from GD.resolve_right (fun h => by omega))
                      go_wp2_with fail
                      go_ret
                      exact ⟨by rw [(NONE.out HNO.out).2]; rfl, (NONE.out HNO.out).1, Only1.set _⟩
                    by_cases hc2 : 57 < cn
                    · have HNO := Lib.hid (show r = none from GD.resolve_right (fun h => by omega))
                      go_wp2_with fail
                      go_ret
                      exact ⟨by rw [(NONE.out HNO.out).2]; rfl, (NONE.out HNO.out).1, Only1.set _⟩
                    by_cases hc3 : 922337203685477580 < v
                    · have HNO := Lib.hid (show r = none from GD.resolve_right (fun h => by omega))
                      go_wp2_with fail
                      go_ret
                      exact ⟨by rw [(NONE.out HNO.out).2]; rfl, (NONE.out HNO.out).1, Only1.set _⟩
                    by_cases hve : v = 922337203685477580
                    · by_cases hc4 : 8 < cn - 48
                      · have HNO := Lib.hid (show r = none from GD.resolve_right (fun h => by omega))
                        go_wp2_with fail
                        go_ret
                        exact ⟨by rw [(NONE.out HNO.out).2]; rfl, (NONE.out HNO.out).1, Only1.set _⟩
                      have hc5 : ¬ 8 < cn - 48 := hc4
                      clear hc4
                      have hup := Lib.hid (show 1 ≤ i + 1 → 10 * v + (cn - 48) = upTo (bl T) 1 (i + 1) from fun _ => by
                        obtain ⟨c, g1, g2⟩ := byI_get (s := T) (i := i) (by omega)
                        rw [upTo_next (by omega) g1, ← hv1.out (by omega)]
                        omega)
                      clear GD hv1
                      go_wp2_with fail
                      go_roundw
                      case rel => exact ⟨i + 1, 10 * v + (cn - 48), by go_num, by congr 1; omega, by omega, hup, fun h => absurd h (by omega), by omega, by first | rfl | trivial⟩
                      case measure => simp [intOf]; omega
                    · have hup := Lib.hid (show 1 ≤ i + 1 → 10 * v + (cn - 48) = upTo (bl T) 1 (i + 1) from fun _ => by
                        obtain ⟨c, g1, g2⟩ := byI_get (s := T) (i := i) (by omega)
                        rw [upTo_next (by omega) g1, ← hv1.out (by omega)]
                        omega)
                      clear GD hv1
                      go_wp2_with fail
                      go_roundw
                      case rel => exact ⟨i + 1, 10 * v + (cn - 48), by go_num, by congr 1; omega, by omega, hup, fun h => absurd h (by omega), by omega, by first | rfl | trivial⟩
                      case measure => simp [intOf]; omega
                · obtain rfl : i = k := by omega
                  have hvk := Lib.hid (hv1.out (by omega))
                  clear hv1 hv2 hlt2
                  have RN := Lib.hid (fun W : World => refnum_is (-(v : Int)) (by omega) (by omega) W)
                  have hcat : ¬ 9223372036854775807 < T.size + 1 := by omega
                  by_cases heq : numX (-(v : Int)) = T ++ (⟨#[44]⟩ : ByteArray)
                  · have hqb : ((numX (-(v : Int))).toList == (T ++ (⟨#[44]⟩ : ByteArray)).toList) = true := by rw [heq]; simp
                    have HEQ := Lib.hid (show bl T ++ [44] = numT (-(v : Int)) from by rw [← bl_numX, heq, bl_append]; rfl)
                    clear heq
                    by_cases hlo : (-(v : Int)) < lo
                    · go_wp2_with fail
                      refine (RN.out _).mono ?_
                      rintro e w5 ⟨rfl, hb5⟩
                      have HB5 := Lib.hid hb5
                      have HR5 := Lib.hid (later_at hb5 HH.out)
                      clear hb5 RN z0 z1 zf
                      have z0 := cellH HR5.out 0
                      have z1 := cellH HR5.out 1
                      have zf := freeH HR5.out
                      simp at z0 z1
                      have HNO := Lib.hid (show r = none from by
                        cases hrr : r with
                        | none => rfl
                        | some q =>
                          obtain ⟨m, rest⟩ := q
                          have e1 := ENDS.out m rest hrr
                          obtain ⟨a1, a2, a3, _, _, _⟩ := HSOME.out m rest hrr
                          have e2 := hvk.out
                          omega)
                      go_wp2_with fail
                      go_ret
                      exact ⟨by rw [(NONE.out HNO.out).2]; rfl, by rw [row_set HR5.out, HNO.out]; rfl, (Only1.of_below HB5.out).trans (Only1.set _)⟩
                    by_cases hhi : hi < (-(v : Int))
                    · go_wp2_with fail
                      refine (RN.out _).mono ?_
                      rintro e w5 ⟨rfl, hb5⟩
                      have HB5 := Lib.hid hb5
                      have HR5 := Lib.hid (later_at hb5 HH.out)
                      clear hb5 RN z0 z1 zf
                      have z0 := cellH HR5.out 0
                      have z1 := cellH HR5.out 1
                      have zf := freeH HR5.out
                      simp at z0 z1
                      have HNO := Lib.hid (show r = none from by
                        cases hrr : r with
                        | none => rfl
                        | some q =>
                          obtain ⟨m, rest⟩ := q
                          have e1 := ENDS.out m rest hrr
                          obtain ⟨a1, a2, a3, _, _, _⟩ := HSOME.out m rest hrr
                          have e2 := hvk.out
                          omega)
                      go_wp2_with fail
                      go_ret
                      exact ⟨by rw [(NONE.out HNO.out).2]; rfl, by rw [row_set HR5.out, HNO.out]; rfl, (Only1.of_below HB5.out).trans (Only1.set _)⟩
                    have HYES := Lib.hid (HBACK.out (-(v : Int)) (by omega) (by omega) HEQ.out (by omega) (by omega))
                    go_wp2_with fail
                    refine (RN.out _).mono ?_
                    rintro e w5 ⟨rfl, hb5⟩
                    have HB5 := Lib.hid hb5
                    have HR5 := Lib.hid (later_at hb5 HH.out)
                    clear hb5 RN z0 z1 zf
                    have z0 := cellH HR5.out 0
                    have z1 := cellH HR5.out 1
                    have zf := freeH HR5.out
                    simp at z0 z1
                    go_wp2_with fail
                    go_ret
                    exact ⟨by rw [HYES.out]; rfl, by
                      rw [row_set HR5.out, HYES.out]
                      have e6 : S.extract (i + 1) S.size = ofL ((bl S).drop (i + 1)) := by
                        apply bl_inj
                        rw [bl_extract, bl_ofL, List.take_of_length_le (by rw [bl_len]; exact Nat.le_refl _)]
                      rw [e6]
                      rfl, (Only1.of_below HB5.out).trans (Only1.set _)⟩
                  · have hqb : ((numX (-(v : Int))).toList == (T ++ (⟨#[44]⟩ : ByteArray)).toList) = false := by rw [ba_beq]; exact decide_eq_false heq
                    have HNE := Lib.hid heq
                    clear heq
                    go_wp2_with fail
                    refine (RN.out _).mono ?_
                    rintro e w5 ⟨rfl, hb5⟩
                    have HB5 := Lib.hid hb5
                    have HR5 := Lib.hid (later_at hb5 HH.out)
                    clear hb5 RN z0 z1 zf
                    have z0 := cellH HR5.out 0
                    have z1 := cellH HR5.out 1
                    have zf := freeH HR5.out
                    simp at z0 z1
                    have HNO := Lib.hid (show r = none from by
                      cases hrr : r with
                      | none => rfl
                      | some q =>
                        obtain ⟨m, rest⟩ := q
                        have e1 := ENDS.out m rest hrr
                        obtain ⟨a1, a2, a3, _, _, _⟩ := HSOME.out m rest hrr
                        have e2 := hvk.out
                        exfalso
                        apply HNE.out
                        apply bl_inj
                        rw [bl_numX, bl_append, a1, numT_head]
                        rw [show (-(v : Int)) = m by omega]
                        rfl)
                    go_wp2_with fail
                    go_ret
                    exact ⟨by rw [(NONE.out HNO.out).2]; rfl, by rw [row_set HR5.out, HNO.out]; rfl, (Only1.of_below HB5.out).trans (Only1.set _)⟩
            · obtain ⟨c0, hc0⟩ : ∃ c0 : Nat, byI T 0 = c0 := ⟨(byI T 0).toNat, by have := byI_range T 0; omega⟩
              have hc02 : c0 ≤ 255 := by have := byI_range T 0; omega
              have hqb0 : ((c0 : Int) == 45) = false := beq_eq_false_iff_ne.2 (by omega)
              have HNB := Lib.hid (show (bl T)[0]? ≠ some 45 from fun e => by
                obtain ⟨c, g1, g2⟩ := byI_get (s := T) (i := 0) (by omega)
                rw [e] at g1
                obtain rfl := Option.some.inj g1
                exact hq g2)
              clear hq
              have GOOD := Lib.hid (show ∀ (i cn : Nat), 0 ≤ i → i < k → byI T i = (cn : Int) → r = none ∨ (48 ≤ cn ∧ cn ≤ 57 ∧ 10 * upTo (bl T) 0 i + (cn - 48) ≤ 9223372036854775808) from fun i cn g1 g2 g3 => by
                cases hrr : r with
                | none => exact .inl rfl
                | some q =>
                  obtain ⟨m, rest⟩ := q
                  obtain ⟨a1, _, _, a4, a5, _⟩ := HSOME.out m rest hrr
                  obtain ⟨c, e1, e2⟩ := byI_get (s := T) (i := i) (by omega)
                  have e3 : c.toNat = cn := by omega
                  have hm : ¬ m < 0 := by rw [← head_neg, ← a1]; exact HNB.out
                  have hd := head_drop m
                  rw [if_neg hm, ← a1] at hd
                  have h1 := upTo_le (b := 0) g1 e1
                  rw [a1] at e1
                  have h2 := head_digit e1 (fun h => by omega)
                  rw [hd] at h1
                  exact .inr ⟨by omega, by omega, by omega⟩)
              have ENDS := Lib.hid (show ∀ m rest, r = some (m, rest) → m = (upTo (bl T) 0 k : Int) from fun m rest hrr => by
                obtain ⟨a1, _, _, a4, a5, _⟩ := HSOME.out m rest hrr
                have hm : ¬ m < 0 := by rw [← head_neg, ← a1]; exact HNB.out
                have hd := head_drop m
                rw [if_neg hm, ← a1] at hd
                have hu := upTo_all (bl T) 0
                rw [bl_len, hts, hd] at hu
                omega)
              go_wp2_with fail
              go_loopw [7, 11] (fun a7 a11 wv => ∃ (i v : Nat), a11 = .int .i64 i ∧ a7 = .int .i64 (-(v : Int)) ∧ i ≤ k ∧ Hid (0 ≤ i → v = upTo (bl T) 0 i) ∧ (i < 0 → v = 0) ∧ v ≤ 9223372036854775808 ∧ wv = wr) (fun _ i _ => k - (intOf i).toNat)
              case atStart => exact ⟨0, 0, rfl, rfl, by omega, Lib.hid (fun h => (upTo_start _ _).symm), fun _ => rfl, by omega, rfl⟩
              case round =>
                obtain ⟨i, v, rfl, rfl, hik, hv1, hv2, hv3, hw⟩ := hrel
                subst hw
                by_cases hlt2 : i < k
                · by_cases hi0 : i = 0
                  · subst hi0
                    clear hv2
                    have hQQ := hc0
                    have hQQ2 := hc02
                    have GD := GOOD.out 0 c0 (by omega) hlt2 hQQ
                    rw [← hv1.out (by omega)] at GD
                    by_cases hc1 : c0 < 48
                    · have HNO := Lib.hid (show r = none from GD.resolve_right (fun h => by omega))
                      go_wp2_with fail
                      go_ret
                      exact ⟨by rw [(NONE.out HNO.out).2]; rfl, (NONE.out HNO.out).1, Only1.set _⟩
                    by_cases hc2 : 57 < c0
                    · have HNO := Lib.hid (show r = none from GD.resolve_right (fun h => by omega))
                      go_wp2_with fail
                      go_ret
                      exact ⟨by rw [(NONE.out HNO.out).2]; rfl, (NONE.out HNO.out).1, Only1.set _⟩
                    by_cases hc3 : 922337203685477580 < v
                    · have HNO := Lib.hid (show r = none from GD.resolve_right (fun h => by omega))
                      go_wp2_with fail
                      go_ret
                      exact ⟨by rw [(NONE.out HNO.out).2]; rfl, (NONE.out HNO.out).1, Only1.set _⟩
                    by_cases hve : v = 922337203685477580
                    · by_cases hc4 : 8 < c0 - 48
                      · have HNO := Lib.hid (show r = none from GD.resolve_right (fun h => by omega))
                        go_wp2_with fail
                        go_ret
                        exact ⟨by rw [(NONE.out HNO.out).2]; rfl, (NONE.out HNO.out).1, Only1.set _⟩
                      have hc5 : ¬ 8 < c0 - 48 := hc4
                      clear hc4
                      have hup := Lib.hid (show 0 ≤ 0 + 1 → 10 * v + (c0 - 48) = upTo (bl T) 0 (0 + 1) from fun _ => by
                        obtain ⟨c, g1, g2⟩ := byI_get (s := T) (i := 0) (by omega)
                        rw [upTo_next (by omega) g1, ← hv1.out (by omega)]
                        omega)
                      clear GD hv1
                      go_wp2_with fail
                      go_roundw
                      case rel => exact ⟨0 + 1, 10 * v + (c0 - 48), by go_num, by congr 1; omega, by omega, hup, fun h => absurd h (by omega), by omega, by first | rfl | trivial⟩
                      case measure => simp [intOf]; omega
                    · have hup := Lib.hid (show 0 ≤ 0 + 1 → 10 * v + (c0 - 48) = upTo (bl T) 0 (0 + 1) from fun _ => by
                        obtain ⟨c, g1, g2⟩ := byI_get (s := T) (i := 0) (by omega)
                        rw [upTo_next (by omega) g1, ← hv1.out (by omega)]
                        omega)
                      clear GD hv1
                      go_wp2_with fail
                      go_roundw
                      case rel => exact ⟨0 + 1, 10 * v + (c0 - 48), by go_num, by congr 1; omega, by omega, hup, fun h => absurd h (by omega), by omega, by first | rfl | trivial⟩
                      case measure => simp [intOf]; omega
                  · have hi1 : 0 ≤ i := by omega
                    clear hv2
                    obtain ⟨cn, hcn⟩ : ∃ cn : Nat, byI T i = cn := ⟨(byI T i).toNat, by have := byI_range T i; omega⟩
                    have hcn2 : cn ≤ 255 := by have := byI_range T i; omega
                    have GD := GOOD.out i cn (by omega) hlt2 hcn
                    rw [← hv1.out (by omega)] at GD
                    by_cases hc1 : cn < 48
                    · have HNO := Lib.hid (show r = none from GD.resolve_right (fun h => by omega))
                      go_wp2_with fail
                      go_ret
                      exact ⟨by rw [(NONE.out HNO.out).2]; rfl, (NONE.out HNO.out).1, Only1.set _⟩
                    by_cases hc2 : 57 < cn
                    · have HNO := Lib.hid (show r = none from GD.resolve_right (fun h => by omega))
                      go_wp2_with fail
                      go_ret
                      exact ⟨by rw [(NONE.out HNO.out).2]; rfl, (NONE.out HNO.out).1, Only1.set _⟩
                    by_cases hc3 : 922337203685477580 < v
                    · have HNO := Lib.hid (show r = none from GD.resolve_right (fun h => by omega))
                      go_wp2_with fail
                      go_ret
                      exact ⟨by rw [(NONE.out HNO.out).2]; rfl, (NONE.out HNO.out).1, Only1.set _⟩
                    by_cases hve : v = 922337203685477580
                    · by_cases hc4 : 8 < cn - 48
                      · have HNO := Lib.hid (show r = none from GD.resolve_right (fun h => by omega))
                        go_wp2_with fail
                        go_ret
                        exact ⟨by rw [(NONE.out HNO.out).2]; rfl, (NONE.out HNO.out).1, Only1.set _⟩
                      have hc5 : ¬ 8 < cn - 48 := hc4
                      clear hc4
                      have hup := Lib.hid (show 0 ≤ i + 1 → 10 * v + (cn - 48) = upTo (bl T) 0 (i + 1) from fun _ => by
                        obtain ⟨c, g1, g2⟩ := byI_get (s := T) (i := i) (by omega)
                        rw [upTo_next (by omega) g1, ← hv1.out (by omega)]
                        omega)
                      clear GD hv1
                      go_wp2_with fail
                      go_roundw
                      case rel => exact ⟨i + 1, 10 * v + (cn - 48), by go_num, by congr 1; omega, by omega, hup, fun h => absurd h (by omega), by omega, by first | rfl | trivial⟩
                      case measure => simp [intOf]; omega
                    · have hup := Lib.hid (show 0 ≤ i + 1 → 10 * v + (cn - 48) = upTo (bl T) 0 (i + 1) from fun _ => by
                        obtain ⟨c, g1, g2⟩ := byI_get (s := T) (i := i) (by omega)
                        rw [upTo_next (by omega) g1, ← hv1.out (by omega)]
                        omega)
                      clear GD hv1
                      go_wp2_with fail
                      go_roundw
                      case rel => exact ⟨i + 1, 10 * v + (cn - 48), by go_num, by congr 1; omega, by omega, hup, fun h => absurd h (by omega), by omega, by first | rfl | trivial⟩
                      case measure => simp [intOf]; omega
                · obtain rfl : i = k := by omega
                  have hvk := Lib.hid (hv1.out (by omega))
                  clear hv1 hv2 hlt2
                  by_cases hmin : v = 9223372036854775808
                  · have HNO := Lib.hid (show r = none from by
              cases hrr : r with
              | none => rfl
              | some q =>
                obtain ⟨m, rest⟩ := q
                have e1 := ENDS.out m rest hrr
                obtain ⟨_, _, _, _, a5, _⟩ := HSOME.out m rest hrr
                have e2 := hvk.out
                omega)
                    go_wp2_with fail
                    go_ret
                    exact ⟨by rw [(NONE.out HNO.out).2]; rfl, (NONE.out HNO.out).1, Only1.set _⟩
                  have RN := Lib.hid (fun W : World => refnum_is (v : Int) (by omega) (by omega) W)
                  have hcat : ¬ 9223372036854775807 < T.size + 1 := by omega
                  by_cases heq : numX (v : Int) = T ++ (⟨#[44]⟩ : ByteArray)
                  · have hqb : ((numX (v : Int)).toList == (T ++ (⟨#[44]⟩ : ByteArray)).toList) = true := by rw [heq]; simp
                    have HEQ := Lib.hid (show bl T ++ [44] = numT (v : Int) from by rw [← bl_numX, heq, bl_append]; rfl)
                    clear heq
                    by_cases hlo : (v : Int) < lo
                    · go_wp2_with fail
                      refine (RN.out _).mono ?_
                      rintro e w5 ⟨rfl, hb5⟩
                      have HB5 := Lib.hid hb5
                      have HR5 := Lib.hid (later_at hb5 HH.out)
                      clear hb5 RN z0 z1 zf
                      have z0 := cellH HR5.out 0
                      have z1 := cellH HR5.out 1
                      have zf := freeH HR5.out
                      simp at z0 z1
                      have HNO := Lib.hid (show r = none from by
                        cases hrr : r with
                        | none => rfl
                        | some q =>
                          obtain ⟨m, rest⟩ := q
                          have e1 := ENDS.out m rest hrr
                          obtain ⟨a1, a2, a3, _, _, _⟩ := HSOME.out m rest hrr
                          have e2 := hvk.out
                          omega)
                      go_wp2_with fail
                      go_ret
                      exact ⟨by rw [(NONE.out HNO.out).2]; rfl, by rw [row_set HR5.out, HNO.out]; rfl, (Only1.of_below HB5.out).trans (Only1.set _)⟩
                    by_cases hhi : hi < (v : Int)
                    · go_wp2_with fail
                      refine (RN.out _).mono ?_
                      rintro e w5 ⟨rfl, hb5⟩
                      have HB5 := Lib.hid hb5
                      have HR5 := Lib.hid (later_at hb5 HH.out)
                      clear hb5 RN z0 z1 zf
                      have z0 := cellH HR5.out 0
                      have z1 := cellH HR5.out 1
                      have zf := freeH HR5.out
                      simp at z0 z1
                      have HNO := Lib.hid (show r = none from by
                        cases hrr : r with
                        | none => rfl
                        | some q =>
                          obtain ⟨m, rest⟩ := q
                          have e1 := ENDS.out m rest hrr
                          obtain ⟨a1, a2, a3, _, _, _⟩ := HSOME.out m rest hrr
                          have e2 := hvk.out
                          omega)
                      go_wp2_with fail
                      go_ret
                      exact ⟨by rw [(NONE.out HNO.out).2]; rfl, by rw [row_set HR5.out, HNO.out]; rfl, (Only1.of_below HB5.out).trans (Only1.set _)⟩
                    have HYES := Lib.hid (HBACK.out (v : Int) (by omega) (by omega) HEQ.out (by omega) (by omega))
                    go_wp2_with fail
                    refine (RN.out _).mono ?_
                    rintro e w5 ⟨rfl, hb5⟩
                    have HB5 := Lib.hid hb5
                    have HR5 := Lib.hid (later_at hb5 HH.out)
                    clear hb5 RN z0 z1 zf
                    have z0 := cellH HR5.out 0
                    have z1 := cellH HR5.out 1
                    have zf := freeH HR5.out
                    simp at z0 z1
                    go_wp2_with fail
                    go_ret
                    exact ⟨by rw [HYES.out]; rfl, by
                      rw [row_set HR5.out, HYES.out]
                      have e6 : S.extract (i + 1) S.size = ofL ((bl S).drop (i + 1)) := by
                        apply bl_inj
                        rw [bl_extract, bl_ofL, List.take_of_length_le (by rw [bl_len]; exact Nat.le_refl _)]
                      rw [e6]
                      rfl, (Only1.of_below HB5.out).trans (Only1.set _)⟩
                  · have hqb : ((numX (v : Int)).toList == (T ++ (⟨#[44]⟩ : ByteArray)).toList) = false := by rw [ba_beq]; exact decide_eq_false heq
                    have HNE := Lib.hid heq
                    clear heq
                    go_wp2_with fail
                    refine (RN.out _).mono ?_
                    rintro e w5 ⟨rfl, hb5⟩
                    have HB5 := Lib.hid hb5
                    have HR5 := Lib.hid (later_at hb5 HH.out)
                    clear hb5 RN z0 z1 zf
                    have z0 := cellH HR5.out 0
                    have z1 := cellH HR5.out 1
                    have zf := freeH HR5.out
                    simp at z0 z1
                    have HNO := Lib.hid (show r = none from by
                      cases hrr : r with
                      | none => rfl
                      | some q =>
                        obtain ⟨m, rest⟩ := q
                        have e1 := ENDS.out m rest hrr
                        obtain ⟨a1, a2, a3, _, _, _⟩ := HSOME.out m rest hrr
                        have e2 := hvk.out
                        exfalso
                        apply HNE.out
                        apply bl_inj
                        rw [bl_numX, bl_append, a1, numT_head]
                        rw [show (v : Int) = m by omega]
                        rfl)
                    go_wp2_with fail
                    go_ret
                    exact ⟨by rw [(NONE.out HNO.out).2]; rfl, by rw [row_set HR5.out, HNO.out]; rfl, (Only1.of_below HB5.out).trans (Only1.set _)⟩
        · have HNO := Lib.hid (show r = none from by
            cases hrr : r with
            | none => rfl
            | some q =>
              obtain ⟨m, rest⟩ := q
              obtain ⟨j, h1, h2, h3⟩ := some_comma (hrr ▸ HR.out)
              exact absurd h3 (hno.out j (by omega)))
          go_wp2_with fail
          go_ret
          exact ⟨by rw [(NONE.out HNO.out).2]; rfl, (NONE.out HNO.out).1, Only1.set _⟩
      · have hcb : (byI S k != 44) = true := bne_iff_ne.2 hc
        by_cases h21 : k < 21
        · have hno2 := Lib.hid (show ∀ j, j < k + 1 → byI S j ≠ 44 from fun j hj => by
            by_cases e : j = k
            · subst e; exact hc
            · exact hno.out j (by omega))
          clear hno
          go_wp2_with fail
          go_roundw
          case rel => exact ⟨k + 1, by go_num, by omega, by omega, hno2, by first | rfl | trivial⟩
          case measure => simp [intOf]; omega
        · have HNO := Lib.hid (show r = none from by
            cases hrr : r with
            | none => rfl
            | some q =>
              obtain ⟨m, rest⟩ := q
              obtain ⟨j, h1, h2, h3⟩ := some_comma (hrr ▸ HR.out)
              exact absurd h3 (hno.out j (by omega)))
          go_wp2_with fail
          go_ret
          exact ⟨by rw [(NONE.out HNO.out).2]; rfl, (NONE.out HNO.out).1, Only1.set _⟩
    · have HNO := Lib.hid (show r = none from by
        cases hrr : r with
        | none => rfl
        | some q =>
          obtain ⟨m, rest⟩ := q
          obtain ⟨j, h1, h2, h3⟩ := some_comma (hrr ▸ HR.out)
          exact absurd h3 (hno.out j (by omega)))
      go_wp2_with fail
      go_ret
      exact ⟨by rw [(NONE.out HNO.out).2]; rfl, (NONE.out HNO.out).1, Only1.set _⟩
end
end Go.Proofs.YtnajbcbdncmbbaaDoor
