/-
  What the document's Next (package lockageref04) answers, over a list of texts to its end. No conditions but how the list lies, and sizes.
-/
import Derived.Test.YtbdgmddlghhkjaaPlgY
import Derived.Test.YtbdgmddlghhkjaaSecD
namespace Go.Proofs.Ytbdgmddlghhkjaa
open Go.RowKit

def rdL (L : List ByteArray) (i : Int) : ByteArray := (L[i.toNat]?).getD ⟨#[]⟩
/-- What one piece must be. -/
def CondN (p q : Pc) (gen no : Int) (i : Nat) : Prop := p.gen = gen ∧ p.no = no ∧ p.idx = i ∧ p.stamp = q.stamp ∧ p.tot = q.tot ∧ ((i : Int) < p.tot - 1 → p.data.size = 37) ∧ (0 < i → p.data.size ≠ 0)
section
variable {rd : Int → ByteArray} {a e gen no : Int} {f i : Nat} {first : Option Pc} {acc : ByteArray} {p : Pc}
theorem nextG_end (h : e ≤ a + i) : ∀ f, nextF rd a e gen no f i first acc = none
  | 0 => rfl
  | f + 1 => by unfold nextF; rw [if_pos h]
theorem nextG_none (h : a + i < e) (hr : readP (rd (a + i)) = none) : nextF rd a e gen no (f + 1) i first acc = none := by
  unfold nextF
  rw [if_neg (Int.not_le.2 h), hr]
theorem nextG_bad (h : a + i < e) (hr : readP (rd (a + i)) = some p) (hc : ¬ CondN p (first.getD p) gen no i) : nextF rd a e gen no (f + 1) i first acc = none := by
  unfold nextF
  rw [if_neg (Int.not_le.2 h), hr]
  exact if_neg hc
theorem nextG_last (h : a + i < e) (hr : readP (rd (a + i)) = some p) (hc : CondN p (first.getD p) gen no i) (hl : (i : Int) = p.tot - 1) : nextF rd a e gen no (f + 1) i first acc = some (acc ++ p.data, a + i + 1) := by
  unfold CondN at hc
  unfold nextF
  rw [if_neg (Int.not_le.2 h), hr]
  simp only
  rw [if_pos hc, if_pos hl]
theorem nextG_more (h : a + i < e) (hr : readP (rd (a + i)) = some p) (hc : CondN p (first.getD p) gen no i) (hl : ¬ (i : Int) = p.tot - 1) : nextF rd a e gen no (f + 1) i first acc = nextF rd a e gen no f (i + 1) (some (first.getD p)) (acc ++ p.data) := by
  unfold CondN at hc
  conv => lhs; unfold nextF
  rw [if_neg (Int.not_le.2 h), hr]
  simp only
  rw [if_pos hc, if_neg hl]
end

/-- A block of six cells, written anew. -/
def set6 (W : World) (B : Nat) (v0 v1 v2 v3 v4 v5 : Value) : World := (((((W.setCell ⟨B, 0, none⟩ v0).setCell ⟨B, 1, none⟩ v1).setCell ⟨B, 2, none⟩ v2).setCell ⟨B, 3, none⟩ v3).setCell ⟨B, 4, none⟩ v4).setCell ⟨B, 5, none⟩ v5
section
variable {w W : World} {g B n : Nat} {a0 a1 a2 a3 a4 a5 v0 v1 v2 v3 v4 v5 : Value} {t : TypeId} {m : Nat × Nat}
theorem set6_other (h : g ≠ B) : (set6 W B v0 v1 v2 v3 v4 v5).heap[g]? = W.heap[g]? := by
  have o : ∀ (V : World) (i : Nat) (v : Value), (V.setCell ⟨B, i, none⟩ v).heap[g]? = V.heap[g]? := fun V i v => Below.heap_setCell V ⟨B, i, none⟩ v g (by simpa using h)
  unfold set6
  rw [o, o, o, o, o, o]
theorem set6_row (h : W.heap[B]? = some (.cells #[a0, a1, a2, a3, a4, a5] t m)) : (set6 W B v0 v1 v2 v3 v4 v5).heap[B]? = some (.cells #[v0, v1, v2, v3, v4, v5] t m) := by
  unfold set6
  rw [row_set (row_set (row_set (row_set (row_set (row_set h)))))]
  rfl
theorem set6_below (h : Below n w W) (hB : n ≤ B) : Below n w (set6 W B v0 v1 v2 v3 v4 v5) :=
  (((((h.setCell hB v0).setCell hB v1).setCell hB v2).setCell hB v3).setCell hB v4).setCell hB v5
end

section
variable {w : World} {A : Option Addr} {L : List ByteArray} {c : Nat}
set_option maxHeartbeats 4000000 in
set_option maxRecDepth 100000 in
theorem refnext_is (hT : TextsAt w A L) (a : Nat) (gen no : Int) (ha : a ≤ 100000) (hl : L.length ≤ 100000) :
    Calls Try.prog 35 #[.slice A L.length c, .int .i64 a, .int .i64 L.length, .int .i64 gen, .int .i64 no] w fun e w' => e = .returned (nextV a (nextP (rdL L) a L.length gen no)) ∧ Below w.heap.size w w' := by
  have HT := Lib.hid hT
  obtain ⟨r, hr⟩ : ∃ r, r = nextP (rdL L) a L.length gen no := ⟨_, rfl⟩
  have HR0 := Lib.hid (show r = nextF (rdL L) a L.length gen no (L.length - a - 0) 0 none ⟨#[]⟩ from by rw [hr]; unfold nextP; congr 1; omega)
  rw [← hr]
  obtain ⟨n, hn⟩ : ∃ n, n = L.length := ⟨_, rfl⟩
  have HN := Lib.hid hn
  rw [← hn] at hl HR0 ⊢
  have RD := Lib.hid (fun (s : ByteArray) (W : World) => refread_is (fun p h hf w => refprint_is p h hf w) s W)
  clear hT hr hn
  go_enter Try.func35, Try.ntmps35
  have HB0 := Lib.hid ((Below.refl w.heap.size w).alloc (Nat.le_refl _) (.cells #[.int .u64 0, .int .i64 0, .int .i64 0, .int .i64 0, .int .i64 0, .string ⟨#[]⟩] 75))
  have HZ0 := Lib.hid (made_at w (.cells #[.int .u64 0, .int .i64 0, .int .i64 0, .int .i64 0, .int .i64 0, .string ⟨#[]⟩] 75))
  go_wp2_with fail
  go_loopw [13, 15] (fun a13 a15 wr => ∃ (i : Nat) (acc : ByteArray) (q : Pc), a13 = .string acc ∧ a15 = .int .i64 i ∧ wr.heap[w.heap.size]? = some (.cells #[.int .u64 q.stamp, .int .i64 q.gen, .int .i64 q.no, .int .i64 q.idx, .int .i64 q.tot, .string q.data] 75 (0, 0)) ∧ Below w.heap.size w wr ∧ acc.size ≤ 37 * i ∧ i ≤ n ∧
    r = nextF (rdL L) a n gen no (n - a - i) i (if i = 0 then none else some q) acc) (fun _ i _ => n - (intOf i).toNat)
  case atStart => exact ⟨0, ⟨#[]⟩, noPc, rfl, rfl, HZ0.out, HB0.out, by decide, Nat.zero_le _, by simpa using HR0.out⟩
  case round =>
    obtain ⟨i, acc, q, rfl, rfl, hz, hb, hacc, hin, hrr⟩ := hrel
    clear HB0 HZ0 HR0
    have HZ := Lib.hid hz
    have HB := Lib.hid hb
    have HRR := Lib.hid hrr
    clear hz hb hrr
    by_cases hend : n ≤ a + i
    · have HV := Lib.hid (show r = none from HRR.out.trans (nextG_end (by omega) _))
      clear HRR
      go_wp2_with fail
      go_ret3
      exact ⟨by rw [HV.out]; rfl, HB.out⟩
    · obtain ⟨ad, eA, hcell⟩ := HT.out (by have := HN.out; omega)
      subst eA
      obtain ⟨t, ht⟩ : ∃ t, L[a + i]? = some t := ⟨_, List.getElem?_eq_getElem (by have := HN.out; omega)⟩
      have x0 := cell_later HB.out (hcell _ t ht)
      have HRD := Lib.hid (show rdL L ((a : Int) + (i : Int)) = t by unfold rdL; rw [show ((a : Int) + (i : Int)).toNat = a + i by omega, ht]; rfl)
      clear hcell ht
      obtain ⟨f, hf⟩ : ∃ f, n - a - i = f + 1 := ⟨n - a - i - 1, by omega⟩
      rw [hf] at HRR
      have hf2 : f = n - a - (i + 1) := by omega
      have HF2 := Lib.hid hf2
      have HEND := Lib.hid (show (a : Int) + (i : Int) < (n : Int) by omega)
      clear hf hf2
      obtain ⟨p, hp⟩ : ∃ p, p = (readP t).getD noPc := ⟨_, rfl⟩
      have R1 := Lib.hid (RD.out t)
      rw [← hp] at R1
      have hlt : a + i < n := by omega
      clear hend
      go_wp2_with fail
      refine (R1.out _).mono ?_
      rintro e w3 ⟨rfl, hb3⟩
      have HB3 := Lib.hid (below_step HB.out hb3)
      have HZ3 := Lib.hid (later_at hb3 HZ.out)
      have HB4 := Lib.hid (HB3.out.alloc HB3.out.size (.cells #[.int .u64 p.stamp, .int .i64 p.gen, .int .i64 p.no, .int .i64 p.idx, .int .i64 p.tot, .string p.data] 75))
      have HP4 := Lib.hid (made_at w3 (.cells #[.int .u64 p.stamp, .int .i64 p.gen, .int .i64 p.no, .int .i64 p.idx, .int .i64 p.tot, .string p.data] 75))
      have HZ4 := Lib.hid (later_at ((Below.refl _ _).alloc (Nat.le_refl _) (.cells #[.int .u64 p.stamp, .int .i64 p.gen, .int .i64 p.no, .int .i64 p.idx, .int .i64 p.tot, .string p.data] 75)) HZ3.out)
      have HNE := Lib.hid (show w3.heap.size ≠ w.heap.size by have := (Array.getElem?_eq_some_iff.1 HZ3.out).1; omega)
      clear hb3 HB HZ R1 x0 HB3 HZ3
      cases hrp : readP t with
      | none =>
        rw [hrp] at hp
        have HRP := Lib.hid (show readP (rdL L ((a : Int) + (i : Int))) = none by rw [HRD.out]; exact hrp)
        have HV := Lib.hid (show r = none from HRR.out.trans (nextG_none HEND.out HRP.out))
        clear hrp hp HRR
        go_upto_region 8 with fail
        generalize w3.alloc (.cells #[.int .u64 p.stamp, .int .i64 p.gen, .int .i64 p.no, .int .i64 p.idx, .int .i64 p.tot, .string p.data] 75) = w4 at *
        generalize w3.heap.size = g at *
        have y0 := cellH HP4.out 0
        have y1 := cellH HP4.out 1
        have y2 := cellH HP4.out 2
        have y3 := cellH HP4.out 3
        have y4 := cellH HP4.out 4
        have y5 := cellH HP4.out 5
        simp at y0 y1 y2 y3 y4 y5
        have z0 := cellH HZ4.out 0
        have z1 := cellH HZ4.out 1
        have z2 := cellH HZ4.out 2
        have z3 := cellH HZ4.out 3
        have z4 := cellH HZ4.out 4
        have z5 := cellH HZ4.out 5
        have zf := freeH HZ4.out
        simp at z0 z1 z2 z3 z4 z5
        by_cases hi0 : i = 0
        · subst hi0
          go_wp2_with fail
          go_ret3
          exact ⟨by rw [HV.out]; rfl, set6_below HB4.out (Nat.le_refl _)⟩
        · have hi1 : 0 < i := by omega
          go_wp2_with fail
          go_ret3
          exact ⟨by rw [HV.out]; rfl, HB4.out⟩
      | some p' =>
        rw [hrp] at hp
        simp only [Option.getD_some] at hp
        subst hp
        have hok := (readP_ok hrp).1
        have ht0 := hok.t0
        have ht1 := hok.t1
        have hi1' := hok.i1
        have hd37 := hok.d
        have HRP := Lib.hid (show readP (rdL L ((a : Int) + (i : Int))) = some p by rw [HRD.out]; exact hrp)
        clear hrp hok
        go_upto_region 8 with fail
        generalize w3.alloc (.cells #[.int .u64 p.stamp, .int .i64 p.gen, .int .i64 p.no, .int .i64 p.idx, .int .i64 p.tot, .string p.data] 75) = w4 at *
        generalize w3.heap.size = g at *
        obtain ⟨pst, pgen, pno, pidx, ptot, pdat⟩ := p
        obtain ⟨qst, qgen, qno, qidx, qtot, qdat⟩ := q
        simp only at ht0 ht1 hi1' hd37
        have hji : (acc ++ pdat).size = acc.size + pdat.size := ByteArray.size_append
        by_cases hi0 : i = 0
        · subst hi0
          have HB5 := Lib.hid (show Below w.heap.size w (set6 w4 w.heap.size (.int .u64 pst) (.int .i64 pgen) (.int .i64 pno) (.int .i64 pidx) (.int .i64 ptot) (.string pdat)) from set6_below HB4.out (Nat.le_refl _))
          have HX5 := Lib.hid (show (set6 w4 w.heap.size (.int .u64 pst) (.int .i64 pgen) (.int .i64 pno) (.int .i64 pidx) (.int .i64 ptot) (.string pdat)).heap[w.heap.size]? = _ from set6_row HZ4.out)
          have HY5 := Lib.hid (show (set6 w4 w.heap.size (.int .u64 pst) (.int .i64 pgen) (.int .i64 pno) (.int .i64 pidx) (.int .i64 ptot) (.string pdat)).heap[g]? = _ from (set6_other HNE.out).trans HP4.out)
          have HW6 := Lib.hid (show ((((((w4.setCell ⟨w.heap.size, 0, none⟩ (.int .u64 pst)).setCell ⟨w.heap.size, 1, none⟩ (.int .i64 pgen)).setCell ⟨w.heap.size, 2, none⟩ (.int .i64 pno)).setCell ⟨w.heap.size, 3, none⟩ (.int .i64 pidx)).setCell ⟨w.heap.size, 4, none⟩ (.int .i64 ptot)).setCell ⟨w.heap.size, 5, none⟩ (.string pdat)) = set6 w4 w.heap.size (.int .u64 pst) (.int .i64 pgen) (.int .i64 pno) (.int .i64 pidx) (.int .i64 ptot) (.string pdat) from rfl)
          have y0 := cellH HP4.out 0
          have y1 := cellH HP4.out 1
          have y2 := cellH HP4.out 2
          have y3 := cellH HP4.out 3
          have y4 := cellH HP4.out 4
          have y5 := cellH HP4.out 5
          simp at y0 y1 y2 y3 y4 y5
          have z0 := cellH HZ4.out 0
          have z1 := cellH HZ4.out 1
          have z2 := cellH HZ4.out 2
          have z3 := cellH HZ4.out 3
          have z4 := cellH HZ4.out 4
          have z5 := cellH HZ4.out 5
          have zf := freeH HZ4.out
          simp at z0 z1 z2 z3 z4 z5
          go_upto_region 10 with fail
          rw [HW6.out]
          generalize set6 w4 w.heap.size (.int .u64 pst) (.int .i64 pgen) (.int .i64 pno) (.int .i64 pidx) (.int .i64 ptot) (.string pdat) = w5 at *
          clear y0 y1 y2 y3 y4 y5 z0 z1 z2 z3 z4 z5 zf HZ4 HP4 HB4 HW6
          have y0 := cellH HY5.out 0
          have y1 := cellH HY5.out 1
          have y2 := cellH HY5.out 2
          have y3 := cellH HY5.out 3
          have y4 := cellH HY5.out 4
          have y5 := cellH HY5.out 5
          simp at y0 y1 y2 y3 y4 y5
          have z0 := cellH HX5.out 0
          have z1 := cellH HX5.out 1
          have z2 := cellH HX5.out 2
          have z3 := cellH HX5.out 3
          have z4 := cellH HX5.out 4
          have z5 := cellH HX5.out 5
          simp at z0 z1 z2 z3 z4 z5
          by_cases h1 : pgen = gen
          rotate_left
          · have HV := Lib.hid (show r = none from HRR.out.trans (nextG_bad HEND.out HRP.out (fun k => h1 k.1)))
            clear HRR
            go_wp2_with fail
            go_ret3
            refine ⟨by rw [HV.out]; rfl, ?_⟩
            exact HB5.out
          by_cases h2 : pno = no
          rotate_left
          · have HV := Lib.hid (show r = none from HRR.out.trans (nextG_bad HEND.out HRP.out (fun k => h2 k.2.1)))
            clear HRR
            go_wp2_with fail
            go_ret3
            refine ⟨by rw [HV.out]; rfl, ?_⟩
            exact HB5.out
          by_cases h3 : pidx = 0
          rotate_left
          · have HV := Lib.hid (show r = none from HRR.out.trans (nextG_bad HEND.out HRP.out (fun k => h3 k.2.2.1)))
            clear HRR
            go_wp2_with fail
            go_ret3
            refine ⟨by rw [HV.out]; rfl, ?_⟩
            exact HB5.out
          by_cases h6 : 0 < ptot - 1
          · by_cases h7 : pdat.size = 37
            rotate_left
            · have HV := Lib.hid (show r = none from HRR.out.trans (nextG_bad HEND.out HRP.out (fun k => h7 (k.2.2.2.2.2.1 h6))))
              clear HRR
              go_wp2_with fail
              go_ret3
              refine ⟨by rw [HV.out]; rfl, ?_⟩
              exact HB5.out
            · have HV := Lib.hid (HRR.out.trans (nextG_more HEND.out HRP.out ⟨h1, h2, h3, rfl, rfl, fun _ => h7, fun h => absurd h (by decide)⟩ (by show ¬ (((0 : Nat) : Int)) = ptot - 1; omega)))
              have hnl : ¬ ptot - 1 = 0 := by omega
              have hnl2 : ¬ 0 = ptot - 1 := by omega
              clear HRR
              go_wp2_with fail
              go_roundw
              case rel => exact ⟨0 + 1, acc ++ pdat, ⟨pst, pgen, pno, pidx, ptot, pdat⟩, rfl, by go_num, HX5.out, HB5.out, by rw [ByteArray.size_append]; omega, by omega, by rw [if_neg (by omega), ← HF2.out]; exact HV.out⟩
              case measure => simp [intOf]; omega
          · have hlast : 0 = ptot - 1 := by omega
            have HV := Lib.hid (HRR.out.trans (nextG_last HEND.out HRP.out ⟨h1, h2, h3, rfl, rfl, fun h => absurd h h6, fun h => absurd h (by decide)⟩ hlast))
            have hpt : ptot = 1 := by omega
            clear HRR hlast
            subst hpt
            go_wp2_with fail
            go_ret3
            exact ⟨by rw [HV.out]; rfl, HB5.out⟩
        · have hi1 : 0 < i := by omega
          have HB5 := HB4
          have HX5 := HZ4
          have HY5 := HP4
          clear HB4 HZ4 HP4
          go_upto_region 10 with fail
          generalize w4 = w5 at *
          rw [if_neg hi0] at HRR
          have y0 := cellH HY5.out 0
          have y1 := cellH HY5.out 1
          have y2 := cellH HY5.out 2
          have y3 := cellH HY5.out 3
          have y4 := cellH HY5.out 4
          have y5 := cellH HY5.out 5
          simp at y0 y1 y2 y3 y4 y5
          have z0 := cellH HX5.out 0
          have z1 := cellH HX5.out 1
          have z2 := cellH HX5.out 2
          have z3 := cellH HX5.out 3
          have z4 := cellH HX5.out 4
          have z5 := cellH HX5.out 5
          simp at z0 z1 z2 z3 z4 z5
          by_cases h1 : pgen = gen
          rotate_left
          · have HV := Lib.hid (show r = none from HRR.out.trans (nextG_bad HEND.out HRP.out (fun k => h1 k.1)))
            clear HRR
            go_wp2_with fail
            go_ret3
            exact ⟨by rw [HV.out]; rfl, HB5.out⟩
          by_cases h2 : pno = no
          rotate_left
          · have HV := Lib.hid (show r = none from HRR.out.trans (nextG_bad HEND.out HRP.out (fun k => h2 k.2.1)))
            clear HRR
            go_wp2_with fail
            go_ret3
            exact ⟨by rw [HV.out]; rfl, HB5.out⟩
          by_cases h3 : pidx = (i : Int)
          rotate_left
          · have HV := Lib.hid (show r = none from HRR.out.trans (nextG_bad HEND.out HRP.out (fun k => h3 k.2.2.1)))
            clear HRR
            go_wp2_with fail
            go_ret3
            exact ⟨by rw [HV.out]; rfl, HB5.out⟩
          by_cases h4 : pst = qst
          rotate_left
          · have HV := Lib.hid (show r = none from HRR.out.trans (nextG_bad HEND.out HRP.out (fun k => h4 k.2.2.2.1)))
            clear HRR
            go_wp2_with fail
            go_ret3
            exact ⟨by rw [HV.out]; rfl, HB5.out⟩
          by_cases h5 : ptot = qtot
          rotate_left
          · have HV := Lib.hid (show r = none from HRR.out.trans (nextG_bad HEND.out HRP.out (fun k => h5 k.2.2.2.2.1)))
            clear HRR
            go_wp2_with fail
            go_ret3
            exact ⟨by rw [HV.out]; rfl, HB5.out⟩
          by_cases h6 : (i : Int) < ptot - 1
          · by_cases h7 : pdat.size = 37
            rotate_left
            · have HV := Lib.hid (show r = none from HRR.out.trans (nextG_bad HEND.out HRP.out (fun k => h7 (k.2.2.2.2.2.1 h6))))
              clear HRR
              go_wp2_with fail
              go_ret3
              exact ⟨by rw [HV.out]; rfl, HB5.out⟩
            · have HV := Lib.hid (HRR.out.trans (nextG_more HEND.out HRP.out ⟨h1, h2, h3, h4, h5, fun _ => h7, fun _ => (by show pdat.size ≠ 0; omega)⟩ (by show ¬ ((i : Int)) = ptot - 1; omega)))
              have hnl : ¬ ptot - 1 = (i : Int) := by omega
              have hnl2 : ¬ (i : Int) = ptot - 1 := by omega
              clear HRR
              go_wp2_with fail
              go_roundw
              case rel => exact ⟨i + 1, acc ++ pdat, ⟨qst, qgen, qno, qidx, qtot, qdat⟩, rfl, by go_num, HX5.out, HB5.out, by rw [ByteArray.size_append]; omega, by omega, by rw [if_neg (by omega), ← HF2.out]; exact HV.out⟩
              case measure => simp [intOf]; omega
          · have hlast : (i : Int) = ptot - 1 := by omega
            by_cases h7 : pdat.size = 0
            · have HV := Lib.hid (show r = none from HRR.out.trans (nextG_bad HEND.out HRP.out (fun k => k.2.2.2.2.2.2 hi1 h7)))
              clear HRR
              go_wp2_with fail
              go_ret3
              exact ⟨by rw [HV.out]; rfl, HB5.out⟩
            have HV := Lib.hid (HRR.out.trans (nextG_last HEND.out HRP.out ⟨h1, h2, h3, h4, h5, fun h => absurd h h6, fun _ => h7⟩ hlast))
            have hpt : ptot = (i : Int) + 1 := by omega
            clear HRR hlast
            subst h5
            subst hpt
            have hzb : ((pdat.size : Int) == 0) = false := beq_eq_false_iff_ne.2 (by omega)
            clear h6 h7
            go_wp2_with fail
            go_ret3
            exact ⟨by rw [HV.out]; rfl, HB5.out⟩
end
end Go.Proofs.Ytbdgmddlghhkjaa
