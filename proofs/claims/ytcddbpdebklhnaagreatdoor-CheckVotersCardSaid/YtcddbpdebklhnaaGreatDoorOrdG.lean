/-
  The program's Round, Ahead and Behind, of pipelines that may be; Round of the empty one. No further conditions.
-/
import Derived.Test.YtcddbpdebklhnaaGreatDoorOrdE
namespace Go.Proofs.YtcddbpdebklhnaaGreatDoor
open Go.RowKit

theorem RightPi.all {p : PiP} (h : RightPi p) : ∀ t ∈ p.tasks, (∀ j ∈ t.after, j < p.tasks.length) ∧ t.after.Nodup := fun t ht => (h.task t ht).aft
theorem roundP_hit {p : PiP} {k : Nat} (hk : k < p.tasks.length) (h : (upP p.tasks k).contains k = true) (hb : ∀ j, j < k → (upP p.tasks j).contains j = false) : roundP p = k := by
  unfold roundP
  have : (List.range p.tasks.length).find? (fun i => (upP p.tasks i).contains i) = some k := by
    rw [List.find?_range_eq_some]
    exact ⟨h, List.mem_range.2 hk, fun j hj => by rw [hb j hj]; rfl⟩
  rw [this]
theorem roundP_none {p : PiP} (hb : ∀ j, j < p.tasks.length → (upP p.tasks j).contains j = false) : roundP p = -1 := by
  unfold roundP
  have : (List.range p.tasks.length).find? (fun i => (upP p.tasks i).contains i) = none := by
    rw [List.find?_eq_none]
    intro x hx
    rw [hb x (List.mem_range.1 hx)]
    exact Bool.false_ne_true
  rw [this]
section
variable {w : World} {A D : Option Addr} {c d : Nat} {n : ByteArray} {ts : List TkP}
set_option maxHeartbeats 2000000 in
set_option maxRecDepth 100000 in
theorem oround_is (hA : TksAt w A ts) (hp : RightPi ⟨n, ts⟩) :
    Calls Tryz.prog 45 #[.agg #[.string n, .slice A ts.length c]] w fun e w' => e = .returned (.int .i64 (roundP ⟨n, ts⟩)) ∧ Below w.heap.size w w' := by
  have b0 := (Below.refl w.heap.size w).alloc (Nat.le_refl _) (.cells #[.string n, .slice A ts.length c] 24)
  have HX := Lib.hid (made_at w (.cells #[.string n, .slice A ts.length c] 24))
  have HA := Lib.hid (hA.later b0)
  have HP := Lib.hid hp
  have HB0 := Lib.hid b0
  have h8 : ts.length ≤ 8 := hp.few.2
  obtain ⟨r0, hr0⟩ : ∃ r, r = roundP ⟨n, ts⟩ := ⟨_, rfl⟩
  rw [← hr0]
  have HR0 := Lib.hid hr0
  have HHIT := Lib.hid (fun k hk h hb => roundP_hit (p := ⟨n, ts⟩) (k := k) hk h hb)
  have HNON := Lib.hid (fun hb => roundP_none (p := ⟨n, ts⟩) hb)
  clear b0 hA hp hr0
  go_enter Tryz.func45, Tryz.ntmps45
  go_upto_region 1 with fail
  generalize hW0 : (w.alloc (.cells #[.string n, .slice A ts.length c] 24)) = W0 at *
  clear hW0
  have x0 := cellH HX.out 0
  have x1 := cellH HX.out 1
  simp at x0 x1
  go_wp2_with fail
  refine (mright_is (p := ⟨n, ts⟩) HA.out HP.out).mono ?_
  rintro e w1 ⟨rfl, hb1⟩
  have HB1 := Lib.hid (below_step HB0.out hb1)
  have HX1 := Lib.hid (later_at hb1 HX.out)
  have HA1 := Lib.hid (HA.out.later hb1)
  clear hb1 x0 x1 HA HX HB0
  have x1 := cellH HX1.out 1
  simp at x1
  go_wp2_with fail
  clear x1
  go_loopw [10] (fun i wr => ∃ k : Nat, i = .int .i64 k ∧ k ≤ ts.length ∧ Hid (∀ j, j < k → (upP ts j).contains j = false) ∧ Hid (Below w1.heap.size w1 wr)) (fun i _ => ts.length - (intOf i).toNat)
  case atStart => exact ⟨0, rfl, Nat.zero_le _, Lib.hid (fun j hj => absurd hj (Nat.not_lt_zero _)), Lib.hid (Below.refl _ _)⟩
  case round =>
    obtain ⟨k, rfl, hk, HF, HB⟩ := hrel
    by_cases hlt : k < ts.length
    · have x1 := cellH (later_at HB.out HX1.out) 1
      simp at x1
      have hkl : (k : Int) < (ts.length : Int) := by omega
      have HAH := Lib.hid (ahead_is (c := c) (HA1.out.later HB.out) h8 HP.out.all hlt)
      obtain ⟨cb, hcb⟩ : ∃ cb, cb = (upP ts k).contains k := ⟨_, rfl⟩
      have hsh := sortL_has (upP ts k) k
      rw [← hcb] at hsh
      have HSH := Lib.hid hsh
      have HCB := Lib.hid hcb
      have hal : (aheadL ts k).length ≤ 1000000 := by
        have haf : ∀ i, ∀ x ∈ aftN ts i, x < ts.length := fun i x hx => by
          unfold aftN at hx
          rw [List.getD_eq_getElem?_getD] at hx
          cases ht : ts[i]? with
          | none => rw [ht] at hx; cases hx
          | some t => rw [ht] at hx; exact (HP.out.all t (List.mem_of_getElem? ht)).1 x hx
        have h1 := (downP_once haf (ts.length + 1) k [] ⟨fun x hx => absurd hx List.not_mem_nil, List.nodup_nil⟩).1.len
        have h2 : (aheadL ts k).length = (downP ts (ts.length + 1) k []).length := sortL_len _
        omega
      have HAL := Lib.hid hal
      clear hsh hcb hal
      go_wp2_with fail
      refine HAH.out.mono ?_
      rintro e w2 ⟨⟨B, b, rfl, hN⟩, hb2⟩
      have hct := has_place (c := b) hN HAL.out k
      rw [show (aheadL ts k).contains k = cb from HSH.out] at hct
      have HCT := Lib.hid hct
      have HB2 := Lib.hid (below_step HB.out hb2)
      clear hct hN hb2 x1
      cases cb with
      | true =>
        go_wp2_with (go_at_call 46; refine HCT.out.mono ?_; rintro e w3 ⟨rfl, rfl⟩)
        go_ret
        exact ⟨by rw [HR0.out, HHIT.out k hlt HCB.out.symm HF.out]; rfl, below_step HB1.out HB2.out⟩
      | false =>
        go_wp2_with (go_at_call 46; refine HCT.out.mono ?_; rintro e w3 ⟨rfl, rfl⟩)
        go_roundw
        case rel => exact ⟨k + 1, by go_num, by omega, Lib.hid (fun j hj => by
          rcases Nat.lt_or_ge j k with h | h
          · exact HF.out j h
          · obtain rfl : j = k := by omega
            exact HCB.out.symm), HB2⟩
        case measure => simp [intOf]; omega
    · obtain rfl : k = ts.length := by omega
      have hlk : ¬ (ts.length : Int) < (ts.length : Int) := by omega
      go_wp2_with fail
      go_ret
      exact ⟨by rw [HR0.out, HNON.out HF.out]; rfl, below_step HB1.out HB.out⟩
/-- Those of the first k in whose After i is. -/
def behindK (ts : List TkP) (i k : Nat) : List Nat := (List.range k).filter fun j => (aftN ts j).contains i
theorem behindK_next (ts : List TkP) (i k : Nat) : behindK ts i (k + 1) = behindK ts i k ++ (if (aftN ts k).contains i = true then [k] else []) := by
  unfold behindK
  rw [List.range_succ, List.filter_append, List.filter_cons]
  rfl
theorem behindK_len (ts : List TkP) (i k : Nat) : (behindK ts i k).length ≤ k := Nat.le_trans (List.length_filter_le _ _) (by simp)
set_option maxHeartbeats 1000000 in
set_option maxRecDepth 100000 in
theorem mright_no (w : World) : Calls Tryz.prog 44 #[.agg #[.string ⟨#[]⟩, .slice none 0 0]] w fun e w' => e = .returned (.bool false) ∧ Below w.heap.size w w' := by
  have b0 := (Below.refl w.heap.size w).alloc (Nat.le_refl _) (.cells #[.string ⟨#[]⟩, .slice none 0 0] 24)
  have HX := Lib.hid (made_at w (.cells #[.string ⟨#[]⟩, .slice none 0 0] 24))
  have HB0 := Lib.hid b0
  have HIN := Lib.hid (fun x : World => show Calls Tryz.prog 58 #[.string ⟨#[]⟩] x (fun e w' => e = .returned (.bool false) ∧ Below x.heap.size x w') by
    have h := isnameM_is ⟨#[]⟩ x
    rw [show nameP ⟨#[]⟩ = false by decide] at h
    exact h)
  clear b0
  go_enter Tryz.func44, Tryz.ntmps44
  go_upto_region 1 with fail
  generalize hW0 : (w.alloc (.cells #[.string ⟨#[]⟩, .slice none 0 0] 24)) = W0 at *
  clear hW0
  have x0 := cellH HX.out 0
  have x1 := cellH HX.out 1
  simp at x0 x1
  go_wp2_with (go_at_call 58; refine (HIN.out _).mono ?_; rintro e w1 ⟨rfl, hb1⟩; have HB1 := Lib.hid hb1; clear hb1)
  go_ret
  exact ⟨rfl, below_step HB0.out HB1.out⟩
set_option maxHeartbeats 1000000 in
set_option maxRecDepth 100000 in
theorem oround_no (w : World) : Calls Tryz.prog 45 #[.agg #[.string ⟨#[]⟩, .slice none 0 0]] w fun e w' => e = .returned (.int .i64 (-1)) ∧ Below w.heap.size w w' := by
  have b0 := (Below.refl w.heap.size w).alloc (Nat.le_refl _) (.cells #[.string ⟨#[]⟩, .slice none 0 0] 24)
  have HX := Lib.hid (made_at w (.cells #[.string ⟨#[]⟩, .slice none 0 0] 24))
  have HB0 := Lib.hid b0
  clear b0
  go_enter Tryz.func45, Tryz.ntmps45
  go_upto_region 1 with fail
  generalize hW0 : (w.alloc (.cells #[.string ⟨#[]⟩, .slice none 0 0] 24)) = W0 at *
  clear hW0
  have x0 := cellH HX.out 0
  have x1 := cellH HX.out 1
  simp at x0 x1
  go_wp2_with (go_at_call 44; refine (mright_no _).mono ?_; rintro e w1 ⟨rfl, hb1⟩; have HB1 := Lib.hid hb1; clear hb1)
  go_ret
  exact ⟨rfl, below_step HB0.out HB1.out⟩
end
end Go.Proofs.YtcddbpdebklhnaaGreatDoor
