/-
  What the program's Next (package sector) answers: the text that stands at a place. No conditions but what read answers at the places from at up to end.
-/
import Derived.Test.YtbdgmddlghhkjaaSecY
import Derived.Deep.DeepCutAuto
namespace Go.Proofs.Ytbdgmddlghhkjaa
open Go.RowKit

set_option maxHeartbeats 8000000 in
set_option maxRecDepth 100000 in
theorem next_is (f : FuncId) (cap : Value) (rd : Int → ByteArray) (at_ end_ gen no : Int) (ha : -9223372036854775808 ≤ at_) (he : end_ ≤ 9223372036854775807) (w : World) (hcf : ∀ (args : Array Value) (w : World), (callFunc f args).run Try.prog w = .ok (.enter f args) w)
    (RD : ∀ W, Below w.heap.size w W → ∀ i : Int, at_ ≤ i → i < end_ → Calls Try.prog f #[.int .i64 i, cap] W fun e W' => e = .returned (.string (rd i)) ∧ Below W.heap.size W W') :
    Calls Try.prog 44 #[.func (.func f) #[] #[cap], .int .i64 at_, .int .i64 end_, .int .i64 gen, .int .i64 no] w fun e w' => e = .returned (nextV at_ (nextP rd at_ end_ gen no)) ∧ Below w.heap.size w w' := by
  obtain ⟨R, hR⟩ : ∃ R, R = nextP rd at_ end_ gen no := ⟨_, rfl⟩
  have HR := Lib.hid hR
  rw [← hR]
  clear hR
  obtain ⟨X, hX⟩ : ∃ X : Value, X = nextV at_ R := ⟨_, rfl⟩
  have HX := Lib.hid hX
  rw [← hX]
  clear hX
  have HRD := Lib.hid RD
  clear RD
  have hmf : ∀ (fn : Fn) (first cap : Array Value) (w : World), (Instr.makeFunc fn first cap).run Try.prog w = .ok (.func fn first cap) w := fun _ _ _ _ => rfl
  obtain ⟨i0, hi9, hz0, hz1, hz2⟩ := info_parts info_byte3
  have HN0 := Lib.hid (NxW.start w at_)
  go_enter_defers Try.func44, Try.ntmps44
  go_wp2_with fail
  generalize ((((w.alloc (.cells #[.int .i64 at_] 3)).alloc (.cells #[.string ⟨#[]⟩] 9)).alloc (.cells #[.int .i64 0] 3)).alloc (.cells #[.bool false] 4)).alloc (.cells #[.int .u64 0, .int .i64 0, .int .i64 0, .int .i64 0, .int .i64 0, .string ⟨#[]⟩] 85) = W0 at *
  clear hmf
  go_loopw [14, 15] (fun v i wr => ∃ (k : Nat) (first : Option Pc) (acc : ByteArray), i = .int .i64 (at_ + k) ∧ k ≤ 65535 ∧ acc.size ≤ 37 * k ∧ (first = none ↔ k = 0) ∧ (0 < k → at_ + k ≤ end_) ∧
      NxW w at_ (.string ⟨#[]⟩) (.int .i64 0) (.bool false) (pcC (first.getD noPc)) v acc wr ∧ nextF rd at_ end_ gen no ((end_ - at_).toNat - k) k first acc = R) (fun _ i _ => (end_ - intOf i).toNat)
  case atStart => exact ⟨0, none, ⟨#[]⟩, by simp, by omega, by decide, by simp, by omega, HN0.out, HR.out.symm⟩
  case round =>
    obtain ⟨k, first, acc, rfl, hk, hacc, hfk, hle, hN, hnf⟩ := hrel
    have HN := Lib.hid hN
    have HNF := Lib.hid hnf
    have HFK := Lib.hid hfk
    clear hN hnf hfk HN0
    by_cases hlt : at_ + k < end_
    · have hfu : (end_ - at_).toNat - k = ((end_ - at_).toNat - (k + 1)) + 1 := by omega
      rw [hfu] at HNF
      have hne : ¬ end_ ≤ at_ + k := by omega
      have hi0 : at_ ≤ at_ + k := by omega
      have HOW := Lib.hid (own_old HN.out.own)
      cases hrp : readP (rd (at_ + k)) with
      | none =>
        have hR0 : R = none := by rw [← HNF.out]; exact nextF_none hne hrp
        subst hR0
        obtain ⟨p, hp⟩ : ∃ p, p = noPc := ⟨_, rfl⟩
        have RI := Lib.hid (fun W : World => read_is (rd (at_ + k)) W)
        rw [hrp] at RI
        change Hid (∀ W : World, Calls Try.prog _ _ W fun e W' => e = .returned (.tuple #[pcV noPc, .int .i64 3]) ∧ Below W.heap.size W W') at RI
        rw [← hp] at RI
        clear hp hrp
        by_cases hk0 : k = 0
        · have HK0 := Lib.hid hk0
          have hkb : (at_ + (k : Int) == at_) = true := by simp [hk0]
          obtain ⟨q, hq⟩ : ∃ q, q = p := ⟨_, rfl⟩
          have hfn : first = none := HFK.out.2 hk0
          have HQ := Lib.hid (show first.getD p = q by rw [hfn, hq]; rfl)
          have HPQ := Lib.hid hq
          have HFN := Lib.hid hfn
          clear hk0 hfn hq
          go_wp2_with fail
          refine (HRD.out _ HN.out.low (at_ + k) hi0 hlt).mono ?_
          rintro e w1 ⟨rfl, hb1⟩
          have HN1 := Lib.hid (HN.out.later hb1)
          have hs1 := hb1.size
          clear hb1
          go_wp2_with fail
          refine (RI.out _).mono ?_
          rintro e w2 ⟨rfl, hb2⟩
          have HN2 := Lib.hid (HN1.out.later hb2)
          have hs2 := hb2.size
          have HOW2 := Lib.hid (HOW.out w2.heap.size (by omega))
          have HLT := Lib.hid (show w.heap.size + 4 < w2.heap.size from (Array.getElem?_eq_some_iff.1 HN2.out.b4).1)
          clear hb2 hs1 hs2
          have HN3 := Lib.hid (HN2.out.later ((Below.refl _ _).alloc (Nat.le_refl _) (.cells #[.int .u64 p.stamp, .int .i64 p.gen, .int .i64 p.no, .int .i64 p.idx, .int .i64 p.tot, .string p.data] 85)))
          have HP3 := Lib.hid (made_at w2 (.cells #[.int .u64 p.stamp, .int .i64 p.gen, .int .i64 p.no, .int .i64 p.idx, .int .i64 p.tot, .string p.data] 85))
          go_upto_region 8 with fail
          generalize w2.alloc (.cells #[.int .u64 p.stamp, .int .i64 p.gen, .int .i64 p.no, .int .i64 p.idx, .int .i64 p.tot, .string p.data] 85) = W3 at HN3 HP3 ⊢
          generalize w2.heap.size = g at HP3 HOW2 HLT ⊢
          clear HN1 HN2 HN
          rw [HFN.out] at HN3
          have a0 := cellH HN3.out.b0 0
          have d0 := cellH HN3.out.b4 0
          have d1 := cellH HN3.out.b4 1
          have d2 := cellH HN3.out.b4 2
          have d3 := cellH HN3.out.b4 3
          have d4 := cellH HN3.out.b4 4
          have d5 := cellH HN3.out.b4 5
          have q4 := freeH HN3.out.b4
          have x0 := cellH HP3.out 0
          have x1 := cellH HP3.out 1
          have x2 := cellH HP3.out 2
          have x3 := cellH HP3.out 3
          have x4 := cellH HP3.out 4
          have x5 := cellH HP3.out 5
          simp [pcC] at a0 d0 d1 d2 d3 d4 d5 x0 x1 x2 x3 x4 x5
          go_upto_region 10 with fail
          have HN4 := Lib.hid (show NxW w at_ (.string ⟨#[]⟩) (.int .i64 0) (.bool false) (pcC q) _ acc ((((((W3.setCell ⟨w.heap.size + 1 + 1 + 1 + 1, 0, none⟩ (.int .u64 p.stamp)).setCell ⟨w.heap.size + 1 + 1 + 1 + 1, 1, none⟩ (.int .i64 p.gen)).setCell ⟨w.heap.size + 1 + 1 + 1 + 1, 2, none⟩ (.int .i64 p.no)).setCell ⟨w.heap.size + 1 + 1 + 1 + 1, 3, none⟩ (.int .i64 p.idx)).setCell ⟨w.heap.size + 1 + 1 + 1 + 1, 4, none⟩ (.int .i64 p.tot)).setCell ⟨w.heap.size + 1 + 1 + 1 + 1, 5, none⟩ (.string p.data)) by
            rw [HPQ.out]
            exact (((((((HN3.out.set4 0 (.int .u64 p.stamp)).set4 1 (.int .i64 p.gen)).set4 2 (.int .i64 p.no)).set4 3 (.int .i64 p.idx)).set4 4 (.int .i64 p.tot)).set4 5 (.string p.data))))
          have HP4 := Lib.hid (show ((((((W3.setCell ⟨w.heap.size + 1 + 1 + 1 + 1, 0, none⟩ (.int .u64 p.stamp)).setCell ⟨w.heap.size + 1 + 1 + 1 + 1, 1, none⟩ (.int .i64 p.gen)).setCell ⟨w.heap.size + 1 + 1 + 1 + 1, 2, none⟩ (.int .i64 p.no)).setCell ⟨w.heap.size + 1 + 1 + 1 + 1, 3, none⟩ (.int .i64 p.idx)).setCell ⟨w.heap.size + 1 + 1 + 1 + 1, 4, none⟩ (.int .i64 p.tot)).setCell ⟨w.heap.size + 1 + 1 + 1 + 1, 5, none⟩ (.string p.data)).heap[g]? = some (.cells #[.int .u64 p.stamp, .int .i64 p.gen, .int .i64 p.no, .int .i64 p.idx, .int .i64 p.tot, .string p.data] 85 (0, 0)) by
            have hg4 : g ≠ w.heap.size + 1 + 1 + 1 + 1 := by have := HLT.out; omega
            iterate 6 rw [Below.heap_setCell _ _ _ g (by simpa using hg4)]
            exact HP3.out)
          clear a0 d0 d1 d2 d3 d4 d5 q4 x0 x1 x2 x3 x4 x5
          generalize ((((((W3.setCell ⟨w.heap.size + 1 + 1 + 1 + 1, 0, none⟩ (.int .u64 p.stamp)).setCell ⟨w.heap.size + 1 + 1 + 1 + 1, 1, none⟩ (.int .i64 p.gen)).setCell ⟨w.heap.size + 1 + 1 + 1 + 1, 2, none⟩ (.int .i64 p.no)).setCell ⟨w.heap.size + 1 + 1 + 1 + 1, 3, none⟩ (.int .i64 p.idx)).setCell ⟨w.heap.size + 1 + 1 + 1 + 1, 4, none⟩ (.int .i64 p.tot)).setCell ⟨w.heap.size + 1 + 1 + 1 + 1, 5, none⟩ (.string p.data)) = W4 at HN4 HP4 ⊢
          clear HN3 HP3
          clear hkb hfu hle
          have hsub : at_ + (k : Int) - at_ = k := by omega
          have HN5 := Lib.hid (HN4.out.later ((Below.refl _ _).alloc (Nat.le_refl _) (.cells #[.int .u64 q.stamp, .int .i64 gen, .int .i64 no, .int .i64 (k : Int), .int .i64 q.tot, .string p.data] 85)))
          have HP5 := Lib.hid (later_at ((Below.refl _ _).alloc (Nat.le_refl _) (.cells #[.int .u64 q.stamp, .int .i64 gen, .int .i64 no, .int .i64 (k : Int), .int .i64 q.tot, .string p.data] 85)) HP4.out)
          have HW5 := Lib.hid (made_at W4 (.cells #[.int .u64 q.stamp, .int .i64 gen, .int .i64 no, .int .i64 (k : Int), .int .i64 q.tot, .string p.data] 85))
          have a0 := cellH HN4.out.b0 0
          have d0 := cellH HN4.out.b4 0
          have d4 := cellH HN4.out.b4 4
          have x5 := cellH HP4.out 5
          simp [pcC] at a0 d0 d4 x5
          have a1 := cellH HN5.out.b1 0
          have a2 := cellH HN5.out.b2 0
          have a3 := cellH HN5.out.b3 0
          have q1 := freeH HN5.out.b1 0
          have q2 := freeH HN5.out.b2 0
          have q3 := freeH HN5.out.b3 0
          have b0 := cellH HN5.out.b0 0
          simp at b0 a1 a2 a3
          go_wp2_with fail
          generalize W4.alloc (.cells #[.int .u64 q.stamp, .int .i64 gen, .int .i64 no, .int .i64 (k : Int), .int .i64 q.tot, .string p.data] 85) = W5 at *
          clear b0 a0 d0 d4 x5 HP4 HN4 HP5 HW5
          have b0 := cellH HN5.out.b0 0
          simp at b0
          go_region
          all_goals go_wp2_with fail
          all_goals
            refine leaves_cons (f := 53) (args := #[.pointer (some ⟨w.heap.size, 0, none⟩), .pointer (some ⟨w.heap.size + 1, 0, none⟩), .pointer (some ⟨w.heap.size + 1 + 1, 0, none⟩), .pointer (some ⟨w.heap.size + 1 + 1 + 1, 0, none⟩)]) (by simp) (by simp [go_sem]) ?_
            refine (catch_idle _ _ _ _ _).mono ?_
            rintro e u' w'' ⟨rfl, rfl, rfl⟩
            have HF := ((((HN5.out.set1 (.string ⟨#[]⟩)).set2 (.int .i64 at_)).set3 (.bool false))).drew
            have y1 := cellH HF.b1 0
            have y2 := cellH HF.b2 0
            have y3 := cellH HF.b3 0
            simp at y1 y2 y3
            show Leaves _ _ _ _ [] .returning _
            refine ⟨X, ?_, rfl, HF.low⟩
            rw [HX.out]
            simp [results, Try.results44, go_sem, y1, y2, y3, nextV]
        · have HK0 := Lib.hid hk0
          have hkb : (at_ + (k : Int) == at_) = false := by simp; omega
          obtain ⟨q, hfq⟩ : ∃ q, first = some q := by
            cases hf : first with
            | none => exact absurd (HFK.out.1 hf) hk0
            | some q => exact ⟨q, rfl⟩
          have HQ := Lib.hid (show first.getD p = q by rw [hfq]; rfl)
          have HFN := Lib.hid hfq
          clear hk0 hfq
          go_wp2_with fail
          refine (HRD.out _ HN.out.low (at_ + k) hi0 hlt).mono ?_
          rintro e w1 ⟨rfl, hb1⟩
          have HN1 := Lib.hid (HN.out.later hb1)
          have hs1 := hb1.size
          clear hb1
          go_wp2_with fail
          refine (RI.out _).mono ?_
          rintro e w2 ⟨rfl, hb2⟩
          have HN2 := Lib.hid (HN1.out.later hb2)
          have hs2 := hb2.size
          have HOW2 := Lib.hid (HOW.out w2.heap.size (by omega))
          have HLT := Lib.hid (show w.heap.size + 4 < w2.heap.size from (Array.getElem?_eq_some_iff.1 HN2.out.b4).1)
          clear hb2 hs1 hs2
          have HN3 := Lib.hid (HN2.out.later ((Below.refl _ _).alloc (Nat.le_refl _) (.cells #[.int .u64 p.stamp, .int .i64 p.gen, .int .i64 p.no, .int .i64 p.idx, .int .i64 p.tot, .string p.data] 85)))
          have HP3 := Lib.hid (made_at w2 (.cells #[.int .u64 p.stamp, .int .i64 p.gen, .int .i64 p.no, .int .i64 p.idx, .int .i64 p.tot, .string p.data] 85))
          go_upto_region 8 with fail
          generalize w2.alloc (.cells #[.int .u64 p.stamp, .int .i64 p.gen, .int .i64 p.no, .int .i64 p.idx, .int .i64 p.tot, .string p.data] 85) = W3 at HN3 HP3 ⊢
          generalize w2.heap.size = g at HP3 HOW2 HLT ⊢
          clear HN1 HN2 HN
          rw [HFN.out] at HN3
          change Hid (NxW w at_ (.string ⟨#[]⟩) (.int .i64 0) (.bool false) (pcC q) _ acc W3) at HN3
          have a0 := cellH HN3.out.b0 0
          simp at a0
          go_upto_region 10 with fail
          have HN4 := HN3
          have HP4 := HP3
          clear HN3 HP3 a0
          clear hkb hfu hle
          have hsub : at_ + (k : Int) - at_ = k := by omega
          have HN5 := Lib.hid (HN4.out.later ((Below.refl _ _).alloc (Nat.le_refl _) (.cells #[.int .u64 q.stamp, .int .i64 gen, .int .i64 no, .int .i64 (k : Int), .int .i64 q.tot, .string p.data] 85)))
          have HP5 := Lib.hid (later_at ((Below.refl _ _).alloc (Nat.le_refl _) (.cells #[.int .u64 q.stamp, .int .i64 gen, .int .i64 no, .int .i64 (k : Int), .int .i64 q.tot, .string p.data] 85)) HP4.out)
          have HW5 := Lib.hid (made_at W3 (.cells #[.int .u64 q.stamp, .int .i64 gen, .int .i64 no, .int .i64 (k : Int), .int .i64 q.tot, .string p.data] 85))
          have a0 := cellH HN4.out.b0 0
          have d0 := cellH HN4.out.b4 0
          have d4 := cellH HN4.out.b4 4
          have x5 := cellH HP4.out 5
          simp [pcC] at a0 d0 d4 x5
          have a1 := cellH HN5.out.b1 0
          have a2 := cellH HN5.out.b2 0
          have a3 := cellH HN5.out.b3 0
          have q1 := freeH HN5.out.b1 0
          have q2 := freeH HN5.out.b2 0
          have q3 := freeH HN5.out.b3 0
          have b0 := cellH HN5.out.b0 0
          simp at b0 a1 a2 a3
          go_wp2_with fail
          generalize W3.alloc (.cells #[.int .u64 q.stamp, .int .i64 gen, .int .i64 no, .int .i64 (k : Int), .int .i64 q.tot, .string p.data] 85) = W5 at *
          clear b0 a0 d0 d4 x5 HP4 HN4 HP5 HW5
          have b0 := cellH HN5.out.b0 0
          simp at b0
          go_region
          all_goals go_wp2_with fail
          all_goals
            refine leaves_cons (f := 53) (args := #[.pointer (some ⟨w.heap.size, 0, none⟩), .pointer (some ⟨w.heap.size + 1, 0, none⟩), .pointer (some ⟨w.heap.size + 1 + 1, 0, none⟩), .pointer (some ⟨w.heap.size + 1 + 1 + 1, 0, none⟩)]) (by simp) (by simp [go_sem]) ?_
            refine (catch_idle _ _ _ _ _).mono ?_
            rintro e u' w'' ⟨rfl, rfl, rfl⟩
            have HF := ((((HN5.out.set1 (.string ⟨#[]⟩)).set2 (.int .i64 at_)).set3 (.bool false))).drew
            have y1 := cellH HF.b1 0
            have y2 := cellH HF.b2 0
            have y3 := cellH HF.b3 0
            simp at y1 y2 y3
            show Leaves _ _ _ _ [] .returning _
            refine ⟨X, ?_, rfl, HF.low⟩
            rw [HX.out]
            simp [results, Try.results44, go_sem, y1, y2, y3, nextV]
      | some p =>
        have hpo := (rightP_iff p).1 (readP_some hrp).2.2.1
        have RI := Lib.hid (show ∀ W : World, Calls Try.prog 43 #[.string (rd (at_ + k))] W fun e W' => e = .returned (.tuple #[pcV p, .int .i64 0]) ∧ Below W.heap.size W W' from fun W => by
          have := read_is (rd (at_ + k)) W
          rw [hrp] at this
          exact this)
        have hqs : ∃ q, first.getD p = q := ⟨_, rfl⟩
        clear hne
        have HRP := Lib.hid hrp
        have LA := Lib.hid (fun W : World => last_is p.stamp p.gen p.no p.idx p.tot p.data (by have := hpo.t0; omega) (by have := hpo.t1; omega) W)
        have FI := Lib.hid (fun W : World => filled_is p.stamp p.gen p.no p.idx p.tot p.data (by have := hpo.t0; omega) (by have := hpo.t1; omega) W)
        change Hid (∀ W : World, Calls Try.prog _ _ W fun e W' => e = .returned (.bool (filledB p)) ∧ Below W.heap.size W W') at FI
        have HPO := Lib.hid hpo
        clear hpo hrp
        by_cases hk0 : k = 0
        · have HK0 := Lib.hid hk0
          have hkb : (at_ + (k : Int) == at_) = true := by simp [hk0]
          obtain ⟨q, hq⟩ : ∃ q, q = p := ⟨_, rfl⟩
          have hfn : first = none := HFK.out.2 hk0
          have HQ := Lib.hid (show first.getD p = q by rw [hfn, hq]; rfl)
          have HPQ := Lib.hid hq
          have HFN := Lib.hid hfn
          clear hk0 hfn hq
          go_wp2_with fail
          refine (HRD.out _ HN.out.low (at_ + k) hi0 hlt).mono ?_
          rintro e w1 ⟨rfl, hb1⟩
          have HN1 := Lib.hid (HN.out.later hb1)
          have hs1 := hb1.size
          clear hb1
          go_wp2_with fail
          refine (RI.out _).mono ?_
          rintro e w2 ⟨rfl, hb2⟩
          have HN2 := Lib.hid (HN1.out.later hb2)
          have hs2 := hb2.size
          have HOW2 := Lib.hid (HOW.out w2.heap.size (by omega))
          have HLT := Lib.hid (show w.heap.size + 4 < w2.heap.size from (Array.getElem?_eq_some_iff.1 HN2.out.b4).1)
          clear hb2 hs1 hs2
          have HN3 := Lib.hid (HN2.out.later ((Below.refl _ _).alloc (Nat.le_refl _) (.cells #[.int .u64 p.stamp, .int .i64 p.gen, .int .i64 p.no, .int .i64 p.idx, .int .i64 p.tot, .string p.data] 85)))
          have HP3 := Lib.hid (made_at w2 (.cells #[.int .u64 p.stamp, .int .i64 p.gen, .int .i64 p.no, .int .i64 p.idx, .int .i64 p.tot, .string p.data] 85))
          go_upto_region 8 with fail
          generalize w2.alloc (.cells #[.int .u64 p.stamp, .int .i64 p.gen, .int .i64 p.no, .int .i64 p.idx, .int .i64 p.tot, .string p.data] 85) = W3 at HN3 HP3 ⊢
          generalize w2.heap.size = g at HP3 HOW2 HLT ⊢
          clear HN1 HN2 HN
          rw [HFN.out] at HN3
          have a0 := cellH HN3.out.b0 0
          have d0 := cellH HN3.out.b4 0
          have d1 := cellH HN3.out.b4 1
          have d2 := cellH HN3.out.b4 2
          have d3 := cellH HN3.out.b4 3
          have d4 := cellH HN3.out.b4 4
          have d5 := cellH HN3.out.b4 5
          have q4 := freeH HN3.out.b4
          have x0 := cellH HP3.out 0
          have x1 := cellH HP3.out 1
          have x2 := cellH HP3.out 2
          have x3 := cellH HP3.out 3
          have x4 := cellH HP3.out 4
          have x5 := cellH HP3.out 5
          simp [pcC] at a0 d0 d1 d2 d3 d4 d5 x0 x1 x2 x3 x4 x5
          go_upto_region 10 with fail
          have HN4 := Lib.hid (show NxW w at_ (.string ⟨#[]⟩) (.int .i64 0) (.bool false) (pcC q) _ acc ((((((W3.setCell ⟨w.heap.size + 1 + 1 + 1 + 1, 0, none⟩ (.int .u64 p.stamp)).setCell ⟨w.heap.size + 1 + 1 + 1 + 1, 1, none⟩ (.int .i64 p.gen)).setCell ⟨w.heap.size + 1 + 1 + 1 + 1, 2, none⟩ (.int .i64 p.no)).setCell ⟨w.heap.size + 1 + 1 + 1 + 1, 3, none⟩ (.int .i64 p.idx)).setCell ⟨w.heap.size + 1 + 1 + 1 + 1, 4, none⟩ (.int .i64 p.tot)).setCell ⟨w.heap.size + 1 + 1 + 1 + 1, 5, none⟩ (.string p.data)) by
            rw [HPQ.out]
            exact (((((((HN3.out.set4 0 (.int .u64 p.stamp)).set4 1 (.int .i64 p.gen)).set4 2 (.int .i64 p.no)).set4 3 (.int .i64 p.idx)).set4 4 (.int .i64 p.tot)).set4 5 (.string p.data))))
          have HP4 := Lib.hid (show ((((((W3.setCell ⟨w.heap.size + 1 + 1 + 1 + 1, 0, none⟩ (.int .u64 p.stamp)).setCell ⟨w.heap.size + 1 + 1 + 1 + 1, 1, none⟩ (.int .i64 p.gen)).setCell ⟨w.heap.size + 1 + 1 + 1 + 1, 2, none⟩ (.int .i64 p.no)).setCell ⟨w.heap.size + 1 + 1 + 1 + 1, 3, none⟩ (.int .i64 p.idx)).setCell ⟨w.heap.size + 1 + 1 + 1 + 1, 4, none⟩ (.int .i64 p.tot)).setCell ⟨w.heap.size + 1 + 1 + 1 + 1, 5, none⟩ (.string p.data)).heap[g]? = some (.cells #[.int .u64 p.stamp, .int .i64 p.gen, .int .i64 p.no, .int .i64 p.idx, .int .i64 p.tot, .string p.data] 85 (0, 0)) by
            have hg4 : g ≠ w.heap.size + 1 + 1 + 1 + 1 := by have := HLT.out; omega
            iterate 6 rw [Below.heap_setCell _ _ _ g (by simpa using hg4)]
            exact HP3.out)
          clear a0 d0 d1 d2 d3 d4 d5 q4 x0 x1 x2 x3 x4 x5
          generalize ((((((W3.setCell ⟨w.heap.size + 1 + 1 + 1 + 1, 0, none⟩ (.int .u64 p.stamp)).setCell ⟨w.heap.size + 1 + 1 + 1 + 1, 1, none⟩ (.int .i64 p.gen)).setCell ⟨w.heap.size + 1 + 1 + 1 + 1, 2, none⟩ (.int .i64 p.no)).setCell ⟨w.heap.size + 1 + 1 + 1 + 1, 3, none⟩ (.int .i64 p.idx)).setCell ⟨w.heap.size + 1 + 1 + 1 + 1, 4, none⟩ (.int .i64 p.tot)).setCell ⟨w.heap.size + 1 + 1 + 1 + 1, 5, none⟩ (.string p.data)) = W4 at HN4 HP4 ⊢
          clear HN3 HP3
          clear hqs
          have HLT2 := Lib.hid hlt
          have HFU := Lib.hid hfu
          cases hsm : samePc ⟨p.stamp, p.gen, p.no, p.idx, p.tot, p.data⟩ ⟨q.stamp, gen, no, (k : Int), q.tot, p.data⟩
          · have hR0 : R = none := by rw [← HNF.out]; exact nextF_bad (by have := HLT2.out; omega) HRP.out (by rw [HQ.out]; rintro ⟨h, _⟩; exact absurd (hsm.symm.trans h) (by simp))
            subst hR0
            clear hkb hfu hle
            have hsub : at_ + (k : Int) - at_ = k := by omega
            have HN5 := Lib.hid (HN4.out.later ((Below.refl _ _).alloc (Nat.le_refl _) (.cells #[.int .u64 q.stamp, .int .i64 gen, .int .i64 no, .int .i64 (k : Int), .int .i64 q.tot, .string p.data] 85)))
            have HP5 := Lib.hid (later_at ((Below.refl _ _).alloc (Nat.le_refl _) (.cells #[.int .u64 q.stamp, .int .i64 gen, .int .i64 no, .int .i64 (k : Int), .int .i64 q.tot, .string p.data] 85)) HP4.out)
            have HW5 := Lib.hid (made_at W4 (.cells #[.int .u64 q.stamp, .int .i64 gen, .int .i64 no, .int .i64 (k : Int), .int .i64 q.tot, .string p.data] 85))
            have a0 := cellH HN4.out.b0 0
            have d0 := cellH HN4.out.b4 0
            have d4 := cellH HN4.out.b4 4
            have x5 := cellH HP4.out 5
            simp [pcC] at a0 d0 d4 x5
            have a1 := cellH HN5.out.b1 0
            have a2 := cellH HN5.out.b2 0
            have a3 := cellH HN5.out.b3 0
            have q1 := freeH HN5.out.b1 0
            have q2 := freeH HN5.out.b2 0
            have q3 := freeH HN5.out.b3 0
            have b0 := cellH HN5.out.b0 0
            simp at b0 a1 a2 a3
            have y0 := cellH HP5.out 0
            have y1 := cellH HP5.out 1
            have y2 := cellH HP5.out 2
            have y3 := cellH HP5.out 3
            have y4 := cellH HP5.out 4
            have y5 := cellH HP5.out 5
            have v0 := cellH HW5.out 0
            have v1 := cellH HW5.out 1
            have v2 := cellH HW5.out 2
            have v3 := cellH HW5.out 3
            have v4 := cellH HW5.out 4
            have v5 := cellH HW5.out 5
            simp at y0 v0 y1 v1 y2 v2 y3 v3 y4 v4 y5 v5
            go_wp2_with fail
            generalize W4.alloc (.cells #[.int .u64 q.stamp, .int .i64 gen, .int .i64 no, .int .i64 (k : Int), .int .i64 q.tot, .string p.data] 85) = W5 at *
            clear b0 a0 d0 d4 x5 HP4 HN4 HP5 HW5 y0 v0 y1 v1 y2 v2 y3 v3 y4 v4 y5 v5
            have b0 := cellH HN5.out.b0 0
            simp at b0
            go_region
            all_goals go_wp2_with fail
            all_goals
              refine leaves_cons (f := 53) (args := #[.pointer (some ⟨w.heap.size, 0, none⟩), .pointer (some ⟨w.heap.size + 1, 0, none⟩), .pointer (some ⟨w.heap.size + 1 + 1, 0, none⟩), .pointer (some ⟨w.heap.size + 1 + 1 + 1, 0, none⟩)]) (by simp) (by simp [go_sem]) ?_
              refine (catch_idle _ _ _ _ _).mono ?_
              rintro e u' w'' ⟨rfl, rfl, rfl⟩
              have HF := ((((HN5.out.set1 (.string ⟨#[]⟩)).set2 (.int .i64 at_)).set3 (.bool false))).drew
              have y1 := cellH HF.b1 0
              have y2 := cellH HF.b2 0
              have y3 := cellH HF.b3 0
              simp at y1 y2 y3
              show Leaves _ _ _ _ [] .returning _
              refine ⟨X, ?_, rfl, HF.low⟩
              rw [HX.out]
              simp [results, Try.results44, go_sem, y1, y2, y3, nextV]
          · have HSM := Lib.hid hsm
            clear hkb hfu hle
            have hsub : at_ + (k : Int) - at_ = k := by omega
            have HN5 := Lib.hid (HN4.out.later ((Below.refl _ _).alloc (Nat.le_refl _) (.cells #[.int .u64 q.stamp, .int .i64 gen, .int .i64 no, .int .i64 (k : Int), .int .i64 q.tot, .string p.data] 85)))
            have HP5 := Lib.hid (later_at ((Below.refl _ _).alloc (Nat.le_refl _) (.cells #[.int .u64 q.stamp, .int .i64 gen, .int .i64 no, .int .i64 (k : Int), .int .i64 q.tot, .string p.data] 85)) HP4.out)
            have HW5 := Lib.hid (made_at W4 (.cells #[.int .u64 q.stamp, .int .i64 gen, .int .i64 no, .int .i64 (k : Int), .int .i64 q.tot, .string p.data] 85))
            have a0 := cellH HN4.out.b0 0
            have d0 := cellH HN4.out.b4 0
            have d4 := cellH HN4.out.b4 4
            have x5 := cellH HP4.out 5
            simp [pcC] at a0 d0 d4 x5
            have y0 := cellH HP5.out 0
            have y1 := cellH HP5.out 1
            have y2 := cellH HP5.out 2
            have y3 := cellH HP5.out 3
            have y4 := cellH HP5.out 4
            have y5 := cellH HP5.out 5
            have v0 := cellH HW5.out 0
            have v1 := cellH HW5.out 1
            have v2 := cellH HW5.out 2
            have v3 := cellH HW5.out 3
            have v4 := cellH HW5.out 4
            have v5 := cellH HW5.out 5
            simp at y0 v0 y1 v1 y2 v2 y3 v3 y4 v4 y5 v5
            go_wp2_with fail
            refine (FI.out _).mono ?_
            rintro e w6 ⟨rfl, hb6⟩
            have HN6 := Lib.hid (HN5.out.later hb6)
            have HP6 := Lib.hid (later_at hb6 HP5.out)
            clear hb6 a0 d0 d4 x5 HP4 HN4 HP5 HN5 HW5 hsm y0 v0 y1 v1 y2 v2 y3 v3 y4 v4 y5 v5
            have b0 := cellH HN6.out.b0 0
            have a1 := cellH HN6.out.b1 0
            have a2 := cellH HN6.out.b2 0
            have a3 := cellH HN6.out.b3 0
            have q1 := freeH HN6.out.b1 0
            have q2 := freeH HN6.out.b2 0
            have q3 := freeH HN6.out.b3 0
            have x0 := cellH HP6.out 0
            have x1 := cellH HP6.out 1
            have x2 := cellH HP6.out 2
            have x3 := cellH HP6.out 3
            have x4 := cellH HP6.out 4
            have x5 := cellH HP6.out 5
            simp at b0 a1 a2 a3 x0 x1 x2 x3 x4 x5
            cases hfl : filledB p
            · have hR0 : R = none := by rw [← HNF.out]; exact nextF_bad (by have := HLT2.out; omega) HRP.out (by rintro ⟨_, h⟩; rw [hfl] at h; cases h)
              subst hR0
              go_wp2_with fail
              go_region
              all_goals go_wp2_with fail
              all_goals
                refine leaves_cons (f := 53) (args := #[.pointer (some ⟨w.heap.size, 0, none⟩), .pointer (some ⟨w.heap.size + 1, 0, none⟩), .pointer (some ⟨w.heap.size + 1 + 1, 0, none⟩), .pointer (some ⟨w.heap.size + 1 + 1 + 1, 0, none⟩)]) (by simp) (by simp [go_sem]) ?_
                refine (catch_idle _ _ _ _ _).mono ?_
                rintro e u' w'' ⟨rfl, rfl, rfl⟩
                have HF := ((((HN6.out.set1 (.string ⟨#[]⟩)).set2 (.int .i64 at_)).set3 (.bool false))).drew
                have y1 := cellH HF.b1 0
                have y2 := cellH HF.b2 0
                have y3 := cellH HF.b3 0
                simp at y1 y2 y3
                show Leaves _ _ _ _ [] .returning _
                refine ⟨X, ?_, rfl, HF.low⟩
                rw [HX.out]
                simp [results, Try.results44, go_sem, y1, y2, y3, nextV]
            · have hidx : p.idx = k := samePc_idx HSM.out
              have hcond : samePc p ⟨(first.getD p).stamp, gen, no, k, (first.getD p).tot, p.data⟩ = true ∧ filledB p = true := ⟨by rw [HQ.out]; exact HSM.out, hfl⟩
              have hd37 := HPO.out.d
              have hac := hacc
              by_cases hla : p.idx = p.tot - 1
              · have hR0 : R = some (acc ++ p.data, at_ + k + 1) := by rw [← HNF.out]; exact nextF_last (by have := HLT2.out; omega) HRP.out hcond (by omega)
                have HR0 := Lib.hid hR0
                rw [decide_eq_true hla] at LA
                clear hcond hla hidx hR0 hfl
                go_wp2_with (at_builtin; go_loud (refine Lib.wpList_append_own_string _ rfl (.tmp 62) (.tmp 64) 61 9 rfl (w.heap.size + 5) 5 i0 Try.underlying61 Try.underlying9 hi9 hz0 hz1 hz2 u14 acc.size (bytesV acc) rfl HN6.out.own p.data rfl (by unfold maxLen; omega) (by omega) (by have := HN6.out.low.size; have := (Array.getElem?_eq_some_iff.1 HN6.out.b4).1; omega) ?_); intro v2 w7 hown hg _; have HN7 := Lib.hid (HN6.out.grow hg hown); have HP7 := Lib.hid (grown_at hg HP6.out HOW2.out); clear hown hg x0 x1 x2 x3 x4 x5 b0 a1 a2 a3 q1 q2 q3; have x0 := cellH HP7.out 0; have x1 := cellH HP7.out 1; have x2 := cellH HP7.out 2; have x3 := cellH HP7.out 3; have x4 := cellH HP7.out 4; have x5 := cellH HP7.out 5; simp at x0 x1 x2 x3 x4 x5)
                refine (LA.out _).mono ?_
                rintro e w8 ⟨rfl, hb8⟩
                have HN8 := Lib.hid (HN7.out.later hb8)
                have hcv := own_text HN8.out.own
                clear hb8 x0 x1 x2 x3 x4 x5
                have a1 := cellH HN8.out.b1 0
                have a2 := cellH HN8.out.b2 0
                have a3 := cellH HN8.out.b3 0
                have q1 := freeH HN8.out.b1 0
                have q2 := freeH HN8.out.b2 0
                have q3 := freeH HN8.out.b3 0
                simp at a1 a2 a3
                have hpl := HLT2.out
                go_wp2_with fail
                refine leaves_cons (f := 53) (args := #[.pointer (some ⟨w.heap.size, 0, none⟩), .pointer (some ⟨w.heap.size + 1, 0, none⟩), .pointer (some ⟨w.heap.size + 1 + 1, 0, none⟩), .pointer (some ⟨w.heap.size + 1 + 1 + 1, 0, none⟩)]) (by simp) (by simp [go_sem]) ?_
                refine (catch_idle _ _ _ _ _).mono ?_
                rintro e u' w'' ⟨rfl, rfl, rfl⟩
                have HF := ((((HN8.out.set1 (.string (acc ++ p.data))).set2 (.int .i64 (at_ + k + 1))).set3 (.bool true)))
                have y1 := cellH HF.b1 0
                have y2 := cellH HF.b2 0
                have y3 := cellH HF.b3 0
                simp at y1 y2 y3
                show Leaves _ _ _ _ [] .returning _
                refine ⟨X, ?_, rfl, HF.low⟩
                rw [HX.out, HR0.out]
                simp [results, Try.results44, go_sem, y1, y2, y3, nextV]
              · have hR0 := HNF.out.symm.trans (nextF_more (by have := HLT2.out; omega) HRP.out hcond (by omega))
                rw [HQ.out] at hR0
                have HR0 := Lib.hid hR0
                rw [decide_eq_false hla] at LA
                have hk1 : k + 1 ≤ 65535 := by have := HPO.out.t1; have := HPO.out.i1; omega
                have hsz2 : (acc ++ p.data).size ≤ 37 * (k + 1) := by rw [ByteArray.size_append]; omega
                clear hcond hla hidx hR0 hfl
                go_wp2_with (at_builtin; go_loud (refine Lib.wpList_append_own_string _ rfl (.tmp 62) (.tmp 64) 61 9 rfl (w.heap.size + 5) 5 i0 Try.underlying61 Try.underlying9 hi9 hz0 hz1 hz2 u14 acc.size (bytesV acc) rfl HN6.out.own p.data rfl (by unfold maxLen; omega) (by omega) (by have := HN6.out.low.size; have := (Array.getElem?_eq_some_iff.1 HN6.out.b4).1; omega) ?_); intro v2 w7 hown hg _; have HN7 := Lib.hid (HN6.out.grow hg hown); have HP7 := Lib.hid (grown_at hg HP6.out HOW2.out); clear hown hg x0 x1 x2 x3 x4 x5 b0 a1 a2 a3 q1 q2 q3; have x0 := cellH HP7.out 0; have x1 := cellH HP7.out 1; have x2 := cellH HP7.out 2; have x3 := cellH HP7.out 3; have x4 := cellH HP7.out 4; have x5 := cellH HP7.out 5; simp at x0 x1 x2 x3 x4 x5)
                refine (LA.out _).mono ?_
                rintro e w8 ⟨rfl, hb8⟩
                have HN8 := Lib.hid (HN7.out.later hb8)
                clear hb8 x0 x1 x2 x3 x4 x5
                have hpl := HLT2.out
                go_wp2_with fail
                exact ⟨⟨k + 1, some q, acc ++ p.data, by rw [show at_ + (k : Int) + 1 = at_ + ((k + 1 : Nat) : Int) by omega], hk1, hsz2, by simp, by omega, HN8.out, HR0.out.symm⟩, by simp [intOf]; omega⟩
        · have HK0 := Lib.hid hk0
          have hkb : (at_ + (k : Int) == at_) = false := by simp; omega
          obtain ⟨q, hfq⟩ : ∃ q, first = some q := by
            cases hf : first with
            | none => exact absurd (HFK.out.1 hf) hk0
            | some q => exact ⟨q, rfl⟩
          have HQ := Lib.hid (show first.getD p = q by rw [hfq]; rfl)
          have HFN := Lib.hid hfq
          clear hk0 hfq
          go_wp2_with fail
          refine (HRD.out _ HN.out.low (at_ + k) hi0 hlt).mono ?_
          rintro e w1 ⟨rfl, hb1⟩
          have HN1 := Lib.hid (HN.out.later hb1)
          have hs1 := hb1.size
          clear hb1
          go_wp2_with fail
          refine (RI.out _).mono ?_
          rintro e w2 ⟨rfl, hb2⟩
          have HN2 := Lib.hid (HN1.out.later hb2)
          have hs2 := hb2.size
          have HOW2 := Lib.hid (HOW.out w2.heap.size (by omega))
          have HLT := Lib.hid (show w.heap.size + 4 < w2.heap.size from (Array.getElem?_eq_some_iff.1 HN2.out.b4).1)
          clear hb2 hs1 hs2
          have HN3 := Lib.hid (HN2.out.later ((Below.refl _ _).alloc (Nat.le_refl _) (.cells #[.int .u64 p.stamp, .int .i64 p.gen, .int .i64 p.no, .int .i64 p.idx, .int .i64 p.tot, .string p.data] 85)))
          have HP3 := Lib.hid (made_at w2 (.cells #[.int .u64 p.stamp, .int .i64 p.gen, .int .i64 p.no, .int .i64 p.idx, .int .i64 p.tot, .string p.data] 85))
          go_upto_region 8 with fail
          generalize w2.alloc (.cells #[.int .u64 p.stamp, .int .i64 p.gen, .int .i64 p.no, .int .i64 p.idx, .int .i64 p.tot, .string p.data] 85) = W3 at HN3 HP3 ⊢
          generalize w2.heap.size = g at HP3 HOW2 HLT ⊢
          clear HN1 HN2 HN
          rw [HFN.out] at HN3
          change Hid (NxW w at_ (.string ⟨#[]⟩) (.int .i64 0) (.bool false) (pcC q) _ acc W3) at HN3
          have a0 := cellH HN3.out.b0 0
          simp at a0
          go_upto_region 10 with fail
          have HN4 := HN3
          have HP4 := HP3
          clear HN3 HP3 a0
          clear hqs
          have HLT2 := Lib.hid hlt
          have HFU := Lib.hid hfu
          cases hsm : samePc ⟨p.stamp, p.gen, p.no, p.idx, p.tot, p.data⟩ ⟨q.stamp, gen, no, (k : Int), q.tot, p.data⟩
          · have hR0 : R = none := by rw [← HNF.out]; exact nextF_bad (by have := HLT2.out; omega) HRP.out (by rw [HQ.out]; rintro ⟨h, _⟩; exact absurd (hsm.symm.trans h) (by simp))
            subst hR0
            clear hkb hfu hle
            have hsub : at_ + (k : Int) - at_ = k := by omega
            have HN5 := Lib.hid (HN4.out.later ((Below.refl _ _).alloc (Nat.le_refl _) (.cells #[.int .u64 q.stamp, .int .i64 gen, .int .i64 no, .int .i64 (k : Int), .int .i64 q.tot, .string p.data] 85)))
            have HP5 := Lib.hid (later_at ((Below.refl _ _).alloc (Nat.le_refl _) (.cells #[.int .u64 q.stamp, .int .i64 gen, .int .i64 no, .int .i64 (k : Int), .int .i64 q.tot, .string p.data] 85)) HP4.out)
            have HW5 := Lib.hid (made_at W3 (.cells #[.int .u64 q.stamp, .int .i64 gen, .int .i64 no, .int .i64 (k : Int), .int .i64 q.tot, .string p.data] 85))
            have a0 := cellH HN4.out.b0 0
            have d0 := cellH HN4.out.b4 0
            have d4 := cellH HN4.out.b4 4
            have x5 := cellH HP4.out 5
            simp [pcC] at a0 d0 d4 x5
            have a1 := cellH HN5.out.b1 0
            have a2 := cellH HN5.out.b2 0
            have a3 := cellH HN5.out.b3 0
            have q1 := freeH HN5.out.b1 0
            have q2 := freeH HN5.out.b2 0
            have q3 := freeH HN5.out.b3 0
            have b0 := cellH HN5.out.b0 0
            simp at b0 a1 a2 a3
            have y0 := cellH HP5.out 0
            have y1 := cellH HP5.out 1
            have y2 := cellH HP5.out 2
            have y3 := cellH HP5.out 3
            have y4 := cellH HP5.out 4
            have y5 := cellH HP5.out 5
            have v0 := cellH HW5.out 0
            have v1 := cellH HW5.out 1
            have v2 := cellH HW5.out 2
            have v3 := cellH HW5.out 3
            have v4 := cellH HW5.out 4
            have v5 := cellH HW5.out 5
            simp at y0 v0 y1 v1 y2 v2 y3 v3 y4 v4 y5 v5
            go_wp2_with fail
            generalize W3.alloc (.cells #[.int .u64 q.stamp, .int .i64 gen, .int .i64 no, .int .i64 (k : Int), .int .i64 q.tot, .string p.data] 85) = W5 at *
            clear b0 a0 d0 d4 x5 HP4 HN4 HP5 HW5 y0 v0 y1 v1 y2 v2 y3 v3 y4 v4 y5 v5
            have b0 := cellH HN5.out.b0 0
            simp at b0
            go_region
            all_goals go_wp2_with fail
            all_goals
              refine leaves_cons (f := 53) (args := #[.pointer (some ⟨w.heap.size, 0, none⟩), .pointer (some ⟨w.heap.size + 1, 0, none⟩), .pointer (some ⟨w.heap.size + 1 + 1, 0, none⟩), .pointer (some ⟨w.heap.size + 1 + 1 + 1, 0, none⟩)]) (by simp) (by simp [go_sem]) ?_
              refine (catch_idle _ _ _ _ _).mono ?_
              rintro e u' w'' ⟨rfl, rfl, rfl⟩
              have HF := ((((HN5.out.set1 (.string ⟨#[]⟩)).set2 (.int .i64 at_)).set3 (.bool false))).drew
              have y1 := cellH HF.b1 0
              have y2 := cellH HF.b2 0
              have y3 := cellH HF.b3 0
              simp at y1 y2 y3
              show Leaves _ _ _ _ [] .returning _
              refine ⟨X, ?_, rfl, HF.low⟩
              rw [HX.out]
              simp [results, Try.results44, go_sem, y1, y2, y3, nextV]
          · have HSM := Lib.hid hsm
            clear hkb hfu hle
            have hsub : at_ + (k : Int) - at_ = k := by omega
            have HN5 := Lib.hid (HN4.out.later ((Below.refl _ _).alloc (Nat.le_refl _) (.cells #[.int .u64 q.stamp, .int .i64 gen, .int .i64 no, .int .i64 (k : Int), .int .i64 q.tot, .string p.data] 85)))
            have HP5 := Lib.hid (later_at ((Below.refl _ _).alloc (Nat.le_refl _) (.cells #[.int .u64 q.stamp, .int .i64 gen, .int .i64 no, .int .i64 (k : Int), .int .i64 q.tot, .string p.data] 85)) HP4.out)
            have HW5 := Lib.hid (made_at W3 (.cells #[.int .u64 q.stamp, .int .i64 gen, .int .i64 no, .int .i64 (k : Int), .int .i64 q.tot, .string p.data] 85))
            have a0 := cellH HN4.out.b0 0
            have d0 := cellH HN4.out.b4 0
            have d4 := cellH HN4.out.b4 4
            have x5 := cellH HP4.out 5
            simp [pcC] at a0 d0 d4 x5
            have y0 := cellH HP5.out 0
            have y1 := cellH HP5.out 1
            have y2 := cellH HP5.out 2
            have y3 := cellH HP5.out 3
            have y4 := cellH HP5.out 4
            have y5 := cellH HP5.out 5
            have v0 := cellH HW5.out 0
            have v1 := cellH HW5.out 1
            have v2 := cellH HW5.out 2
            have v3 := cellH HW5.out 3
            have v4 := cellH HW5.out 4
            have v5 := cellH HW5.out 5
            simp at y0 v0 y1 v1 y2 v2 y3 v3 y4 v4 y5 v5
            go_wp2_with fail
            refine (FI.out _).mono ?_
            rintro e w6 ⟨rfl, hb6⟩
            have HN6 := Lib.hid (HN5.out.later hb6)
            have HP6 := Lib.hid (later_at hb6 HP5.out)
            clear hb6 a0 d0 d4 x5 HP4 HN4 HP5 HN5 HW5 hsm y0 v0 y1 v1 y2 v2 y3 v3 y4 v4 y5 v5
            have b0 := cellH HN6.out.b0 0
            have a1 := cellH HN6.out.b1 0
            have a2 := cellH HN6.out.b2 0
            have a3 := cellH HN6.out.b3 0
            have q1 := freeH HN6.out.b1 0
            have q2 := freeH HN6.out.b2 0
            have q3 := freeH HN6.out.b3 0
            have x0 := cellH HP6.out 0
            have x1 := cellH HP6.out 1
            have x2 := cellH HP6.out 2
            have x3 := cellH HP6.out 3
            have x4 := cellH HP6.out 4
            have x5 := cellH HP6.out 5
            simp at b0 a1 a2 a3 x0 x1 x2 x3 x4 x5
            cases hfl : filledB p
            · have hR0 : R = none := by rw [← HNF.out]; exact nextF_bad (by have := HLT2.out; omega) HRP.out (by rintro ⟨_, h⟩; rw [hfl] at h; cases h)
              subst hR0
              go_wp2_with fail
              go_region
              all_goals go_wp2_with fail
              all_goals
                refine leaves_cons (f := 53) (args := #[.pointer (some ⟨w.heap.size, 0, none⟩), .pointer (some ⟨w.heap.size + 1, 0, none⟩), .pointer (some ⟨w.heap.size + 1 + 1, 0, none⟩), .pointer (some ⟨w.heap.size + 1 + 1 + 1, 0, none⟩)]) (by simp) (by simp [go_sem]) ?_
                refine (catch_idle _ _ _ _ _).mono ?_
                rintro e u' w'' ⟨rfl, rfl, rfl⟩
                have HF := ((((HN6.out.set1 (.string ⟨#[]⟩)).set2 (.int .i64 at_)).set3 (.bool false))).drew
                have y1 := cellH HF.b1 0
                have y2 := cellH HF.b2 0
                have y3 := cellH HF.b3 0
                simp at y1 y2 y3
                show Leaves _ _ _ _ [] .returning _
                refine ⟨X, ?_, rfl, HF.low⟩
                rw [HX.out]
                simp [results, Try.results44, go_sem, y1, y2, y3, nextV]
            · have hidx : p.idx = k := samePc_idx HSM.out
              have hcond : samePc p ⟨(first.getD p).stamp, gen, no, k, (first.getD p).tot, p.data⟩ = true ∧ filledB p = true := ⟨by rw [HQ.out]; exact HSM.out, hfl⟩
              have hd37 := HPO.out.d
              have hac := hacc
              by_cases hla : p.idx = p.tot - 1
              · have hR0 : R = some (acc ++ p.data, at_ + k + 1) := by rw [← HNF.out]; exact nextF_last (by have := HLT2.out; omega) HRP.out hcond (by omega)
                have HR0 := Lib.hid hR0
                rw [decide_eq_true hla] at LA
                clear hcond hla hidx hR0 hfl
                go_wp2_with (at_builtin; go_loud (refine Lib.wpList_append_own_string _ rfl (.tmp 62) (.tmp 64) 61 9 rfl (w.heap.size + 5) 5 i0 Try.underlying61 Try.underlying9 hi9 hz0 hz1 hz2 u14 acc.size (bytesV acc) rfl HN6.out.own p.data rfl (by unfold maxLen; omega) (by omega) (by have := HN6.out.low.size; have := (Array.getElem?_eq_some_iff.1 HN6.out.b4).1; omega) ?_); intro v2 w7 hown hg _; have HN7 := Lib.hid (HN6.out.grow hg hown); have HP7 := Lib.hid (grown_at hg HP6.out HOW2.out); clear hown hg x0 x1 x2 x3 x4 x5 b0 a1 a2 a3 q1 q2 q3; have x0 := cellH HP7.out 0; have x1 := cellH HP7.out 1; have x2 := cellH HP7.out 2; have x3 := cellH HP7.out 3; have x4 := cellH HP7.out 4; have x5 := cellH HP7.out 5; simp at x0 x1 x2 x3 x4 x5)
                refine (LA.out _).mono ?_
                rintro e w8 ⟨rfl, hb8⟩
                have HN8 := Lib.hid (HN7.out.later hb8)
                have hcv := own_text HN8.out.own
                clear hb8 x0 x1 x2 x3 x4 x5
                have a1 := cellH HN8.out.b1 0
                have a2 := cellH HN8.out.b2 0
                have a3 := cellH HN8.out.b3 0
                have q1 := freeH HN8.out.b1 0
                have q2 := freeH HN8.out.b2 0
                have q3 := freeH HN8.out.b3 0
                simp at a1 a2 a3
                have hpl := HLT2.out
                go_wp2_with fail
                refine leaves_cons (f := 53) (args := #[.pointer (some ⟨w.heap.size, 0, none⟩), .pointer (some ⟨w.heap.size + 1, 0, none⟩), .pointer (some ⟨w.heap.size + 1 + 1, 0, none⟩), .pointer (some ⟨w.heap.size + 1 + 1 + 1, 0, none⟩)]) (by simp) (by simp [go_sem]) ?_
                refine (catch_idle _ _ _ _ _).mono ?_
                rintro e u' w'' ⟨rfl, rfl, rfl⟩
                have HF := ((((HN8.out.set1 (.string (acc ++ p.data))).set2 (.int .i64 (at_ + k + 1))).set3 (.bool true)))
                have y1 := cellH HF.b1 0
                have y2 := cellH HF.b2 0
                have y3 := cellH HF.b3 0
                simp at y1 y2 y3
                show Leaves _ _ _ _ [] .returning _
                refine ⟨X, ?_, rfl, HF.low⟩
                rw [HX.out, HR0.out]
                simp [results, Try.results44, go_sem, y1, y2, y3, nextV]
              · have hR0 := HNF.out.symm.trans (nextF_more (by have := HLT2.out; omega) HRP.out hcond (by omega))
                rw [HQ.out] at hR0
                have HR0 := Lib.hid hR0
                rw [decide_eq_false hla] at LA
                have hk1 : k + 1 ≤ 65535 := by have := HPO.out.t1; have := HPO.out.i1; omega
                have hsz2 : (acc ++ p.data).size ≤ 37 * (k + 1) := by rw [ByteArray.size_append]; omega
                clear hcond hla hidx hR0 hfl
                go_wp2_with (at_builtin; go_loud (refine Lib.wpList_append_own_string _ rfl (.tmp 62) (.tmp 64) 61 9 rfl (w.heap.size + 5) 5 i0 Try.underlying61 Try.underlying9 hi9 hz0 hz1 hz2 u14 acc.size (bytesV acc) rfl HN6.out.own p.data rfl (by unfold maxLen; omega) (by omega) (by have := HN6.out.low.size; have := (Array.getElem?_eq_some_iff.1 HN6.out.b4).1; omega) ?_); intro v2 w7 hown hg _; have HN7 := Lib.hid (HN6.out.grow hg hown); have HP7 := Lib.hid (grown_at hg HP6.out HOW2.out); clear hown hg x0 x1 x2 x3 x4 x5 b0 a1 a2 a3 q1 q2 q3; have x0 := cellH HP7.out 0; have x1 := cellH HP7.out 1; have x2 := cellH HP7.out 2; have x3 := cellH HP7.out 3; have x4 := cellH HP7.out 4; have x5 := cellH HP7.out 5; simp at x0 x1 x2 x3 x4 x5)
                refine (LA.out _).mono ?_
                rintro e w8 ⟨rfl, hb8⟩
                have HN8 := Lib.hid (HN7.out.later hb8)
                clear hb8 x0 x1 x2 x3 x4 x5
                have hpl := HLT2.out
                go_wp2_with fail
                exact ⟨⟨k + 1, some q, acc ++ p.data, by rw [show at_ + (k : Int) + 1 = at_ + ((k + 1 : Nat) : Int) by omega], hk1, hsz2, by simp, by omega, HN8.out, HR0.out.symm⟩, by simp [intOf]; omega⟩
    · have hR0 : R = none := by rw [← HNF.out]; exact nextF_end (by omega)
      subst hR0
      have a0 := cellH HN.out.b0 0
      have a1 := cellH HN.out.b1 0
      have a2 := cellH HN.out.b2 0
      have a3 := cellH HN.out.b3 0
      have q1 := freeH HN.out.b1 0
      have q2 := freeH HN.out.b2 0
      have q3 := freeH HN.out.b3 0
      simp at a0 a1 a2 a3
      go_wp2_with fail
      go_region
      all_goals go_wp2_with fail
      all_goals
        refine leaves_cons (f := 53) (args := #[.pointer (some ⟨w.heap.size, 0, none⟩), .pointer (some ⟨w.heap.size + 1, 0, none⟩), .pointer (some ⟨w.heap.size + 1 + 1, 0, none⟩), .pointer (some ⟨w.heap.size + 1 + 1 + 1, 0, none⟩)]) (by simp) (by simp [go_sem]) ?_
        refine (catch_idle _ _ _ _ _).mono ?_
        rintro e u' w'' ⟨rfl, rfl, rfl⟩
        have HF := ((((HN.out.set1 (.string ⟨#[]⟩)).set2 (.int .i64 at_)).set3 (.bool false))).drew
        have y1 := cellH HF.b1 0
        have y2 := cellH HF.b2 0
        have y3 := cellH HF.b3 0
        simp at y1 y2 y3
        show Leaves _ _ _ _ [] .returning _
        refine ⟨X, ?_, rfl, HF.low⟩
        rw [HX.out]
        simp [results, Try.results44, go_sem, y1, y2, y3, nextV]
end Go.Proofs.Ytbdgmddlghhkjaa
