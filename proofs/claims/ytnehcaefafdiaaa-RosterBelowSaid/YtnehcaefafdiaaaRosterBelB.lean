/-
  The law RosterBelow, walked. No conditions but how the arguments lie in memory.
-/
import Derived.Test.YtnehcaefafdiaaaRosterBelA
import Derived.WalkKit
namespace Go.Proofs.Ytnehcaefafdiaaa
open Go.RowKit
open Go.Maps (Keyed IsMap int_keyed keyOf_int_mk)

theorem lawI : Keyed Try.prog 3 := int_keyed Try.underlying3
theorem zeroBool (w : World) : (zeroValue 4).run Try.prog w = .ok (.bool false) w := by kernel_rfl
theorem keyI {a : Int} (h0 : 0 ≤ a) (h1 : a < 64) : keyOf Try.prog 3 (.int .i64 a) = some (.int .i64 a) := keyOf_int_mk Try.underlying3 (WalkArith.wf_i64 ⟨by omega, by omega⟩)

section
variable {A B : Option Addr} {R n m c d : Nat} {lv st pt al au : Nat → Int} {l s x y : Int} {w : World}

set_option maxHeartbeats 1000000 in
set_option maxRecDepth 100000 in
theorem below_bad (hl : LabsAt w A n lv st) (hp : PepsAt w B m pt al au) (hf : faultV n m lv st pt al ≠ 0) :
    Calls Try.prog 6 #[.slice A n c, .slice B m d, .agg #[.int .i64 l, .int .u16 s], .agg #[.int .i64 x, .int .u16 y]] w fun e w' => e = .returned (.bool true) ∧ Below w.heap.size w w' := by
  have hr : ∀ W, Below w.heap.size w W → Calls Try.prog 9 #[.slice A n c, .slice B m d] W fun e w' => e = .returned (.int .i64 (faultV n m lv st pt al)) ∧ Below W.heap.size W w' := fun W hW => refnew_is (hl.later hW) (hp.later hW)
  generalize faultV n m lv st pt al = f at hf hr
  have hne : (f != 0) = true := by simpa using hf
  have HR := Lib.hid hr
  have hB : Below w.heap.size w ((w.alloc (.cells #[.int .i64 l, .int .u16 s] 26)).alloc (.cells #[.int .i64 x, .int .u16 y] 26)) := ((Below.refl _ _).alloc (Nat.le_refl _) _).alloc (by simp) _
  clear hr hf hl hp
  go_enter Try.func6, Try.ntmps6
  go_wp2_with fail
  refine (awake_is _).mono ?_
  rintro e w1 ⟨rfl, hb1⟩
  replace hB := below_step hB hb1
  clear hb1
  go_wp2_with fail
  refine (HR.out _ hB).mono ?_
  rintro e w2 ⟨rfl, hb2⟩
  replace hB := below_step hB hb2
  clear hb2 HR
  go_wp2_with fail
  refine (awake_is _).mono ?_
  rintro e w3 ⟨rfl, hb3⟩
  replace hB := below_step hB hb3
  clear hb3
  go_wp2_with fail
  go_ret
  exact ⟨rfl, hB⟩

/-- Is x among the first q? -/
def among (zs : List Int) (x : Int) (q : Nat) : Bool := (List.range q).any fun j => zs.getD j 0 == x
theorem among_more (zs : List Int) (x : Int) (q : Nat) : among zs x (q + 1) = (among zs x q || zs.getD q 0 == x) := by
  simp [among, List.range_succ]
theorem among_yes {zs : List Int} {x : Int} {j : Nat} (hj : j < zs.length) (h : zs.getD j 0 = x) : among zs x zs.length = true := by
  unfold among
  rw [List.any_eq_true]
  exact ⟨j, by simpa using hj, by simpa using h⟩

set_option maxHeartbeats 4000000 in
set_option maxRecDepth 100000 in
theorem below_good (hl : LabsAt w A n lv st) (hp : PepsAt w B m pt al au) (hc : n ≤ c) (hst : ∀ i, i < n → SetN (st i)) (hau : ∀ i, i < m → SetN (au i)) (hs : SetN s) (hy : SetN y) (hf : faultV n m lv st pt al = 0) :
    Calls Try.prog 6 #[.slice A n c, .slice B m d, .agg #[.int .i64 l, .int .u16 s], .agg #[.int .i64 x, .int .u16 y]] w fun e w' => e = .returned (.bool true) ∧ Below w.heap.size w w' := by
  have HG := Lib.hid (good_of hf hst hau)
  obtain ⟨g1, g4, g12⟩ := HG.out.len
  have HF := Lib.hid hf
  have HN := Lib.hid (show (A = none → n = 0) from fun e => by subst e; obtain ⟨_, e, _⟩ := hl g1; cases e)
  have HM := Lib.hid (show (B = none → m = 0) from fun e => by subst e; rcases Nat.eq_zero_or_pos m with e0 | e0; exact e0; obtain ⟨_, e, _⟩ := hp e0; cases e)
  have HL := Lib.hid hl
  have HP := Lib.hid hp
  have HS := Lib.hid hs
  have HY := Lib.hid hy
  have hmm := @run_makeMap Try.prog
  have hB : Below w.heap.size w ((w.alloc (.cells #[.int .i64 l, .int .u16 s] 26)).alloc (.cells #[.int .i64 x, .int .u16 y] 26)) := ((Below.refl _ _).alloc (Nat.le_refl _) _).alloc (by simp) _
  have a0 : ((w.alloc (.cells #[.int .i64 l, .int .u16 s] 26)).alloc (.cells #[.int .i64 x, .int .u16 y] 26)).cell? ⟨w.heap.size, 0, none⟩ = some (.int .i64 l) := by simp [go_sem]
  have a1 : ((w.alloc (.cells #[.int .i64 l, .int .u16 s] 26)).alloc (.cells #[.int .i64 x, .int .u16 y] 26)).cell? ⟨w.heap.size, 1, none⟩ = some (.int .u16 s) := by simp [go_sem]
  have b0 : ((w.alloc (.cells #[.int .i64 l, .int .u16 s] 26)).alloc (.cells #[.int .i64 x, .int .u16 y] 26)).cell? ⟨w.heap.size + 1, 0, none⟩ = some (.int .i64 x) := by simp [go_sem]
  have b1 : ((w.alloc (.cells #[.int .i64 l, .int .u16 s] 26)).alloc (.cells #[.int .i64 x, .int .u16 y] 26)).cell? ⟨w.heap.size + 1, 1, none⟩ = some (.int .u16 y) := by simp [go_sem]
  clear hst hau hf hl hp hs hy
  go_enter Try.func6, Try.ntmps6
  go_wp2_with fail
  refine (awake_is _).mono ?_
  rintro e w1 ⟨rfl, hb1⟩
  replace hB := below_step hB hb1
  replace a0 := cell_later hb1 a0
  replace a1 := cell_later hb1 a1
  replace b0 := cell_later hb1 b0
  replace b1 := cell_later hb1 b1
  clear hb1
  have hr := refnew_is (c := c) (d := d) (HL.out.later hB) (HP.out.later hB)
  rw [HF.out] at hr
  have HR := Lib.hid hr
  clear hr
  go_wp2_with fail
  refine HR.out.mono ?_
  rintro e w2 ⟨rfl, hb2⟩
  replace hB := below_step hB hb2
  replace a0 := cell_later hb2 a0
  replace a1 := cell_later hb2 a1
  replace b0 := cell_later hb2 b0
  replace b1 := cell_later hb2 b1
  clear hb2 HR
  go_wp2_with fail
  refine (new_yes (HL.out.later hB) (HP.out.later hB) hc HN.out HM.out HF.out).mono ?_
  rintro e w3 ⟨⟨R, rfl, hr⟩, hb3⟩
  have H3 := Lib.hid ((show BelS w R A n m lv st pt al au l s w3 from ⟨hr, HL.out.later (below_step hB hb3), cell_later hb3 a0, cell_later hb3 a1, below_step hB hb3⟩).alloc (.map #[] 0))
  replace b0 := cell_alloc (o := .map #[] 0) (cell_later hb3 b0)
  replace b1 := cell_alloc (o := .map #[] 0) (cell_later hb3 b1)
  have HMAP := Lib.hid (MapHas.made w3 Try.prog 3 4 (belowL (fun i => leqB (lv i) (st i) (mxI l x) (orS s y)) n))
  have hsz : w.heap.size ≤ w3.heap.size := (below_step hB hb3).size
  clear hr hb3 hB a0 a1 HL HP HN HM
  have e0 := H3.out.2.2.1
  have e1 := H3.out.2.2.2.1
  go_wp2_with fail
  refine (refjoin_set _ _ _ _ HS.out HY.out _).mono ?_
  rintro e w4 ⟨rfl, hb4⟩
  have H4 := Lib.hid (H3.out.keep hb4)
  have HMA := Lib.hid (HMAP.out.later hb4)
  clear hb4 H3 HMAP b0 b1 e0 e1
  go_wp2_with fail
  refine (below_is H4.out.1 _ _).mono ?_
  rintro e w5 ⟨A5, c5, rfl, hi5, hb5⟩
  have H5 := H4.out.keep hb5
  have hma := HMA.out.later hb5
  clear hb5 H4 HMA
  generalize hzs : belowL (fun i => leqB (lv i) (st i) (mxI l x) (orS s y)) n = zs at hi5 hma ⊢
  have zl : zs.length ≤ 4 := by rw [← hzs]; exact Nat.le_trans (belowL_len _ _) g4
  have HZ := Lib.hid hzs
  clear hzs
  go_wp2_with fail
  go_loopw [43] (fun i wr => ∃ k : Nat, k ≤ zs.length ∧ i = .int .i64 k ∧ BelS w R A n m lv st pt al au l s wr ∧ IntsAt wr A5 zs ∧ MapHas wr Try.prog 3 4 w3.heap.size zs k) (fun i _ => zs.length - (intOf i).toNat)
  case atStart => exact ⟨0, Nat.zero_le _, rfl, H5, hi5, hma⟩
  case round =>
    clear H5 hi5 hma
    obtain ⟨k, hk, rfl, H5, hi5, hma⟩ := hrel
    by_cases hlt : k < zs.length
    · obtain ⟨ad, rfl, c0⟩ := hi5.at_ hlt
      obtain ⟨D, m1, m2, m3⟩ := hma
      have hz : 0 ≤ zs.getD k 0 ∧ zs.getD k 0 < 64 := by
        have h1 := HZ.out
        subst h1
        obtain ⟨i, hi, e, _⟩ := belowL_mem.1 (belowL_getD hlt)
        rw [e]; omega
      obtain ⟨z, hzk⟩ : ∃ z, z = zs.getD k 0 := ⟨_, rfl⟩
      rw [← hzk] at c0 hz
      have HZK := Lib.hid hzk
      clear hzk
      have HK := Lib.hid (keyI hz.1 hz.2)
      have M1 := Lib.hid m1
      have M3 := Lib.hid m3
      have H6 := Lib.hid H5
      have HI := Lib.hid hi5
      clear hi5 m1 m3 H5 hz
      go_wp2_with (at_mapUpdate; refine wpList_mapUpdate_own _ rfl _ _ _ 53 rfl 3 4 lawI Try.underlying53 _ w3.heap.size k _ rfl M1.out (by unfold maxLen; omega) _ _ _ rfl rfl HK.out _ [] (plainElem_bool Try.underlying4 true) ?_; intro w6 m6 hg6)
      rw [HZK.out] at m6
      have hkc : KeepC wr w6 := fun a v h => cell_map M1.out hg6 h
      have hB6 : Below w.heap.size w w6 := H6.out.2.2.2.2.grown hg6 H6.out.2.2.2.2.size (fun q hq => by injection hq with hq; omega)
      go_roundw
      case rel => exact ⟨k + 1, by omega, by go_num, H6.out.keepC hkc hB6, HI.out.keepC hkc, mapHas_put m2 M3.out m6⟩
      case measure => simp [intOf]; omega
    obtain rfl : k = zs.length := by omega
    have H6 := Lib.hid H5
    have HMP := Lib.hid hma
    clear hi5 H5 hma
    have e0 := H6.out.2.2.1
    have e1 := H6.out.2.2.2.1
    obtain ⟨wo, rfl⟩ : ∃ wo : World, wo = wr := ⟨_, rfl⟩
    go_wp2_with fail
    refine (below_is H6.out.1 _ _).mono ?_
    rintro e w7 ⟨A7, c7, rfl, hi7, hb7⟩
    have H7 := H6.out.keep hb7
    have hm7 := HMP.out.later hb7
    clear hb7 H6 HMP e0 e1
    generalize hys : belowL (fun i => leqB (lv i) (st i) l s) n = ys at hi7 ⊢
    have yl : ys.length ≤ 4 := by rw [← hys]; exact Nat.le_trans (belowL_len _ _) g4
    have HYS := Lib.hid hys
    clear hys
    go_wp2_with fail
    go_loopw [54] (fun i wr => ∃ k : Nat, k ≤ ys.length ∧ i = .int .i64 k ∧ BelS w R A n m lv st pt al au l s wr ∧ IntsAt wr A7 ys ∧ MapHas wr Try.prog 3 4 w3.heap.size zs zs.length) (fun i _ => ys.length - (intOf i).toNat)
    case atStart => exact ⟨0, Nat.zero_le _, rfl, H7, hi7, hm7⟩
    case round =>
      clear H7 hi7 hm7
      obtain ⟨k, hk, rfl, H7, hi7, hm7⟩ := hrel
      by_cases hlt : k < ys.length
      · obtain ⟨ad, rfl, c0⟩ := hi7.at_ hlt
        obtain ⟨D, m1, m2, m3⟩ := hm7
        have hin : ∃ i : Nat, i < n ∧ ys.getD k 0 = i ∧ leqB (lv i) (st i) l s = true := by
          have h1 := HYS.out
          subst h1
          exact belowL_mem.1 (belowL_getD hlt)
        have hz : 0 ≤ ys.getD k 0 ∧ ys.getD k 0 < 64 := by
          obtain ⟨i, hi, e, _⟩ := hin
          rw [e]; omega
        have HK := Lib.hid (keyI hz.1 hz.2)
        have hat : D.atKey (.int .i64 (ys.getD k 0)) (.lit (.bool false)) = .lit (.bool true) := by
          obtain ⟨i, hi, e, hle⟩ := hin
          have hmem : (i : Int) ∈ zs := by
            rw [← HZ.out]
            exact belowL_mem.2 ⟨i, hi, rfl, leq_trans (HG.out.set i hi) HS.out (orS_set HS.out HY.out) hle (leq_join_left HS.out HY.out)⟩
          obtain ⟨j, hj, ej⟩ := List.getElem_of_mem hmem
          have := m3 j hj
          rw [e, ← ej]
          simpa [hj] using this
        have HC := Lib.hid (show ∀ b : Bool, D.atKey (.int .i64 (ys.getD k 0)) (.lit (.bool false)) = .lit (.bool b) → b = true from fun b hb => by rw [hat] at hb; injection hb with hb; injection hb with hb; exact hb.symm)
        obtain ⟨z, hzk⟩ : ∃ z, z = ys.getD k 0 := ⟨_, rfl⟩
        rw [← hzk] at c0 HK HC
        clear hzk
        have M1 := Lib.hid m1
        have H8 := Lib.hid H7
        have HI := Lib.hid hi7
        have HMP := Lib.hid (show MapHas wr Try.prog 3 4 w3.heap.size zs zs.length from ⟨D, m1, m2, m3⟩)
        clear hi7 m1 m2 m3 H7 hz hin hat
        go_wp2_with (at_lookup; refine wpList_lookup_own_bool _ rfl _ _ 53 rfl 3 4 lawI Try.underlying53 Try.underlying4 (zeroBool _) w3.heap.size zs.length D rfl M1.out _ _ rfl HK.out ?_; intro b hb; obtain rfl : b = true := HC.out b hb; clear hb)
        go_roundw
        case rel => exact ⟨k + 1, by omega, by go_num, H8.out, HI.out, HMP.out⟩
        case measure => simp [intOf]; omega
      obtain rfl : k = ys.length := by omega
      clear hi7 hm7
      clear wo
      obtain ⟨wo, rfl⟩ : ∃ wo : World, wo = wr := ⟨_, rfl⟩
      go_wp2_with fail
      go_loopw [65] (fun i wr => ∃ k : Nat, k ≤ n ∧ i = .int .i64 k ∧ BelS w R A n m lv st pt al au l s wr) (fun i _ => n - (intOf i).toNat)
      case atStart => exact ⟨0, Nat.zero_le _, rfl, H7⟩
      case round =>
        clear H7
        obtain ⟨k, hk, rfl, H7⟩ := hrel
        by_cases hlt : k < n
        · obtain ⟨ad, rfl, c0, c1⟩ := H7.2.1.at_ hlt
          have H8 := Lib.hid (H7.alloc (.cells #[.int .i64 (lv k), .int .u16 (st k)] 26))
          have q0 : (wr.alloc (.cells #[.int .i64 (lv k), .int .u16 (st k)] 26)).cell? ⟨wr.heap.size, 0, none⟩ = some (.int .i64 (lv k)) := by simp [go_sem]
          have q1 : (wr.alloc (.cells #[.int .i64 (lv k), .int .u16 (st k)] 26)).cell? ⟨wr.heap.size, 1, none⟩ = some (.int .u16 (st k)) := by simp [go_sem]
          clear H7 wo
          obtain ⟨wo, rfl⟩ : ∃ wo : World, wo = wr := ⟨_, rfl⟩
          go_wp2_with fail
          refine (below_is H8.out.1 _ _).mono ?_
          rintro e w8 ⟨A8, c8, rfl, hi8, hb8⟩
          have H9 := H8.out.keep hb8
          replace q0 := cell_later hb8 q0
          replace q1 := cell_later hb8 q1
          clear hb8 H8 c0 c1
          generalize hks : belowL (fun i => leqB (lv i) (st i) (lv k) (st k)) n = ks at hi8 ⊢
          have kl : ks.length ≤ 4 := by rw [← hks]; exact Nat.le_trans (belowL_len _ _) g4
          have HKS := Lib.hid hks
          clear hks
          go_wp2_with fail
          go_loopw [18, 74] (fun o i wr => ∃ q : Nat, q ≤ ks.length ∧ i = .int .i64 q ∧ o = .bool (among ks k q) ∧ BelS w R (some ad) n m lv st pt al au l s wr ∧ IntsAt wr A8 ks ∧ wr.cell? ⟨wo.heap.size, 0, none⟩ = some (.int .i64 (lv k)) ∧ wr.cell? ⟨wo.heap.size, 1, none⟩ = some (.int .u16 (st k))) (fun _ i _ => ks.length - (intOf i).toNat)
          case atStart => exact ⟨0, Nat.zero_le _, rfl, rfl, H9, hi8, q0, q1⟩
          case round =>
            clear H9 hi8 q0 q1
            obtain ⟨q, hq, rfl, rfl, H9, hi8, q0, q1⟩ := hrel
            by_cases hltq : q < ks.length
            · obtain ⟨ae, rfl, c0⟩ := hi8.at_ hltq
              have HI := Lib.hid hi8
              have H10 := Lib.hid H9
              have HA := among_more ks k q
              obtain ⟨z, hzk⟩ : ∃ z, z = ks.getD q 0 := ⟨_, rfl⟩
              rw [← hzk] at c0 HA
              replace HA := Lib.hid HA
              clear hi8 H9 hzk
              cases ho : among ks k q
              · cases hz : (z == (k : Int))
                · have HA2 := Lib.hid (show among ks k (q + 1) = false by rw [HA.out, ho, hz]; rfl)
                  clear HA
                  go_wp2_with fail
                  go_roundw
                  case rel => exact ⟨q + 1, by omega, by go_num, by rw [HA2.out], H10.out, HI.out, q0, q1⟩
                  case measure => simp [intOf]; omega
                · have HA2 := Lib.hid (show among ks k (q + 1) = true by rw [HA.out, ho, hz]; rfl)
                  clear HA
                  go_wp2_with fail
                  go_roundw
                  case rel => exact ⟨q + 1, by omega, by go_num, by rw [HA2.out], H10.out, HI.out, q0, q1⟩
                  case measure => simp [intOf]; omega
              · have HA2 := Lib.hid (show among ks k (q + 1) = true by rw [HA.out, ho]; rfl)
                clear HA
                go_wp2_with fail
                go_roundw
                case rel => exact ⟨q + 1, by omega, by go_num, by rw [HA2.out], H10.out, HI.out, q0, q1⟩
                case measure => simp [intOf]; omega
            obtain rfl : q = ks.length := by omega
            have ht : among ks k ks.length = true := by
              have hmem : (k : Int) ∈ ks := by
                rw [← HKS.out]
                exact belowL_mem.2 ⟨k, hlt, rfl, leq_refl _ (HG.out.set k hlt)⟩
              obtain ⟨j, hj, ej⟩ := List.getElem_of_mem hmem
              exact among_yes hj (by simp [hj, ej])
            have hfind := find_is H9.1 (lv k) (st k)
            rw [find_own HG.out hlt] at hfind
            have HFI := Lib.hid hfind
            have H10 := Lib.hid H9
            have kk : ((k : Int) != (k : Int)) = false := by simp
            clear hfind hi8 H9
            go_wp2_with (go_at_call 18; refine HFI.out.mono ?_; rintro e w9 ⟨rfl, hb9⟩)
            have h11 := H10.out.keep hb9
            go_roundw
            case rel => exact ⟨k + 1, by omega, by go_num, h11⟩
            case measure => simp [intOf]; omega
        · go_wp2_with fail
          go_ret
          exact ⟨rfl, H7.2.2.2.2⟩

theorem rosterBelow_walk (l s x y : Int) (hl : LabsAt w A n lv st) (hc : n ≤ c) (_ : A = none → n = 0 ∧ c = 0) (hst : ∀ i, i < n → SetN (st i)) (hp : PepsAt w B m pt al au) (_ : B = none → m = 0 ∧ d = 0) (hau : ∀ i, i < m → SetN (au i))
    (_ : (Lit.int .i64 l).wf = true) (ws : (Lit.int .u16 s).wf = true) (_ : (Lit.int .i64 x).wf = true) (wy : (Lit.int .u16 y).wf = true) :
    Calls Try.prog 6 #[.slice A n c, .slice B m d, .agg #[.int .i64 l, .int .u16 s], .agg #[.int .i64 x, .int .u16 y]] w fun e w' => e = .returned (.bool true) ∧ Below w.heap.size w w' := by
  by_cases hf : faultV n m lv st pt al = 0
  · exact below_good hl hp hc hst hau (set_of_wf ws) (set_of_wf wy) hf
  · exact below_bad hl hp hf

end
end Go.Proofs.Ytnehcaefafdiaaa
