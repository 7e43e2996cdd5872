/-
  The law RosterFlows, walked. No conditions but how the arguments lie in memory.
-/
import Derived.Test.YtnehcaefafdiaaaRosterQ
import Derived.WalkKit
import Derived.Deep.DeepCutAuto
namespace Go.Proofs.Ytnehcaefafdiaaa
open Go.RowKit

/-- What is held of the roster and the lists. -/
def FlowS (w : World) (R : Nat) (A B : Option Addr) (n m : Nat) (lv st pt al au : Nat → Int) (W : World) : Prop :=
  RosAt W R n m lv st pt al au ∧ LabsAt W A n lv st ∧ PepsAt W B m pt al au ∧ Below w.heap.size w W
section
variable {A B : Option Addr} {R n m c d : Nat} {lv st pt al au : Nat → Int} {w : World}
theorem FlowS.keep {v v' : World} (h : FlowS w R A B n m lv st pt al au v) (hb : Below v.heap.size v v') : FlowS w R A B n m lv st pt al au v' :=
  let ⟨a, b, c, d⟩ := h
  ⟨a.later hb, b.later hb, c.later hb, below_step d hb⟩
theorem FlowS.alloc {v : World} (h : FlowS w R A B n m lv st pt al au v) (o : Obj) : FlowS w R A B n m lv st pt al au (v.alloc o) :=
  let ⟨a, b, c, d⟩ := h
  ⟨a.alloc o, b.alloc o, c.alloc o, d.alloc d.size o⟩
theorem FlowS.drewN {v : World} (h : FlowS w R A B n m lv st pt al au v) (k : Nat) : FlowS w R A B n m lv st pt al au (v.drewN k) :=
  let ⟨a, b, c, d⟩ := h
  ⟨a, b, c, below_drewN d k⟩
theorem FlowS.keep_ : ∀ v v', FlowS w R A B n m lv st pt al au v → Below v.heap.size v v' → FlowS w R A B n m lv st pt al au v' := fun _ _ h hb => h.keep hb

set_option maxHeartbeats 1000000 in
set_option maxRecDepth 100000 in
theorem flows_bad (hl : LabsAt w A n lv st) (hp : PepsAt w B m pt al au) (hf : faultV n m lv st pt al ≠ 0) (x y p : Int) :
    Calls Try.prog 4 #[.slice A n c, .slice B m d, .int .i64 x, .int .i64 y, .int .i64 p] w fun e w' => e = .returned (.bool true) ∧ Below w.heap.size w w' := by
  have hr : ∀ W, Below w.heap.size w W → Calls Try.prog 9 #[.slice A n c, .slice B m d] W fun e w' => e = .returned (.int .i64 (faultV n m lv st pt al)) ∧ Below W.heap.size W w' := fun W hW => refnew_is (hl.later hW) (hp.later hW)
  generalize faultV n m lv st pt al = f at hf hr
  have hne : (f != 0) = true := by simpa using hf
  have HR := Lib.hid hr
  clear hr hf hl hp
  go_enter Try.func4, Try.ntmps4
  go_wp2_with fail
  refine (awake_is _).mono ?_
  rintro e w1 ⟨rfl, hb1⟩
  go_wp2_with fail
  refine (HR.out _ hb1).mono ?_
  rintro e w2 ⟨rfl, hb2⟩
  have hB := below_step hb1 hb2
  clear hb1 hb2 HR
  go_wp2_with fail
  refine (awake_is _).mono ?_
  rintro e w3 ⟨rfl, hb3⟩
  replace hB := below_step hB hb3
  clear hb3
  go_wp2_with fail
  go_ret
  exact ⟨rfl, hB⟩

/-- What is held in a round: the label that is looked at, in block q. -/
def RndS (w : World) (R : Nat) (A B : Option Addr) (n m : Nat) (lv st pt al au : Nat → Int) (q k : Nat) (W : World) : Prop :=
  FlowS w R A B n m lv st pt al au W ∧ W.cell? ⟨q, 0, none⟩ = some (.int .i64 (lv k)) ∧ W.cell? ⟨q, 1, none⟩ = some (.int .u16 (st k))
theorem RndS.keep {q k : Nat} {v v' : World} (h : RndS w R A B n m lv st pt al au q k v) (hb : Below v.heap.size v v') : RndS w R A B n m lv st pt al au q k v' :=
  ⟨h.1.keep hb, cell_later hb h.2.1, cell_later hb h.2.2⟩
theorem RndS.alloc {q k : Nat} {v : World} (h : RndS w R A B n m lv st pt al au q k v) (o : Obj) : RndS w R A B n m lv st pt al au q k (v.alloc o) :=
  ⟨h.1.alloc o, cell_alloc h.2.1, cell_alloc h.2.2⟩
theorem RndS.drewN {q k : Nat} {v : World} (h : RndS w R A B n m lv st pt al au q k v) (j : Nat) : RndS w R A B n m lv st pt al au q k (v.drewN j) := ⟨h.1.drewN j, h.2.1, h.2.2⟩
theorem RndS.keep_ {q k : Nat} : ∀ v v', RndS w R A B n m lv st pt al au q k v → Below v.heap.size v v' → RndS w R A B n m lv st pt al au q k v' := fun _ _ h hb => h.keep hb

set_option maxHeartbeats 4000000 in
set_option maxRecDepth 100000 in
theorem flows_good (hl : LabsAt w A n lv st) (hp : PepsAt w B m pt al au) (hc : n ≤ c) (hst : ∀ i, i < n → SetN (st i)) (hau : ∀ i, i < m → SetN (au i)) (hf : faultV n m lv st pt al = 0) (x y p : Int) :
    Calls Try.prog 4 #[.slice A n c, .slice B m d, .int .i64 x, .int .i64 y, .int .i64 p] w fun e w' => e = .returned (.bool true) ∧ Below w.heap.size w w' := by
  have HG := Lib.hid (good_of hf hst hau)
  obtain ⟨g1, g4, g12⟩ := HG.out.len
  have HF := Lib.hid hf
  have HN := Lib.hid (show (A = none → n = 0) from fun e => by subst e; obtain ⟨_, e, _⟩ := hl g1; cases e)
  have HM := Lib.hid (show (B = none → m = 0) from fun e => by subst e; rcases Nat.eq_zero_or_pos m with e0 | e0; exact e0; obtain ⟨_, e, _⟩ := hp e0; cases e)
  clear hst hau hf
  have HL := Lib.hid hl
  have HP := Lib.hid hp
  clear hl hp
  go_enter Try.func4, Try.ntmps4
  go_wp2_with fail
  refine (awake_is _).mono ?_
  rintro e w1 ⟨rfl, hb1⟩
  have hr := refnew_is (c := c) (d := d) (HL.out.later hb1) (HP.out.later hb1)
  rw [HF.out] at hr
  go_wp2_with fail
  refine hr.mono ?_
  clear hr
  rintro e w2 ⟨rfl, hb2⟩
  replace hb2 := below_step hb1 hb2
  clear hb1
  go_wp2_with fail
  refine (new_yes (HL.out.later hb2) (HP.out.later hb2) hc HN.out HM.out HF.out).mono ?_
  rintro e w3 ⟨⟨R, rfl, hr⟩, hb3⟩
  have H3 := Lib.hid (show FlowS w R A B n m lv st pt al au w3 from ⟨hr, HL.out.later (below_step hb2 hb3), HP.out.later (below_step hb2 hb3), below_step hb2 hb3⟩)
  clear hr hb2 hb3 HL HP HN HM
  go_upto_region 6 with fail
  go_cut [52] (fun t wx => t = .bool false ∧ FlowS w R A B n m lv st pt al au wx)
  case first =>
    have hsees : ∀ W, FlowS w R A B n m lv st pt al au W → ∀ a b : Int, Calls Try.prog 14 #[.pointer (some ⟨R, 0, none⟩), .int .i64 a, .int .i64 b] W fun e w' => e = .returned (.bool (seesB n m lv st pt a b)) ∧ FlowS w R A B n m lv st pt al au w' :=
      fun W h a b => (sees_is h.1 a b).mono fun _ _ ⟨he, hb⟩ => ⟨he, h.keep hb⟩
    have HSE := Lib.hid hsees
    clear hsees
    cases s1 : seesB n m lv st pt x (partV m pt y)
    · go_wp2_with (first
        | (go_at_call 13; refine (part_is H3.out.1 _).mono ?_; rintro e wm ⟨rfl, rfl⟩)
        | (go_at_call 14; refine (HSE.out _ H3.out _ _).mono ?_; rintro e w4 ⟨rfl, h4⟩; rw [s1]))
      go_meet
      exact ⟨rfl, h4⟩
    · cases s2 : seesB n m lv st pt y p
      · go_wp2_with fail
        refine (part_is H3.out.1 _).mono ?_
        rintro e wm ⟨rfl, rfl⟩
        go_wp2_with fail
        refine (HSE.out _ H3.out _ _).mono ?_
        rintro e w4 ⟨rfl, h4⟩
        rw [s1]
        have H4 := Lib.hid h4
        clear h4
        go_wp2_with fail
        refine (HSE.out _ H4.out _ _).mono ?_
        rintro e w5 ⟨rfl, h5⟩
        rw [s2]
        go_wp2_with fail
        go_meet
        exact ⟨rfl, h5⟩
      · have s3 := sees_trans HG.out s1 s2
        go_wp2_with fail
        refine (part_is H3.out.1 _).mono ?_
        rintro e wm ⟨rfl, rfl⟩
        go_wp2_with fail
        refine (HSE.out _ H3.out _ _).mono ?_
        rintro e w4 ⟨rfl, h4⟩
        rw [s1]
        have H4 := Lib.hid h4
        clear h4
        go_wp2_with fail
        refine (HSE.out _ H4.out _ _).mono ?_
        rintro e w5 ⟨rfl, h5⟩
        rw [s2]
        have H5 := Lib.hid h5
        clear h5
        go_wp2_with fail
        refine (HSE.out _ H5.out _ _).mono ?_
        rintro e w6 ⟨rfl, h6⟩
        rw [s3]
        go_wp2_with fail
        go_meet
        exact ⟨rfl, h6⟩
  case rest =>
  obtain ⟨rfl, h4⟩ := hcut
  clear H3
  go_wp2_with fail
  go_loopw [55] (fun i wr => ∃ k : Nat, k ≤ n ∧ i = .int .i64 k ∧ FlowS w R A B n m lv st pt al au wr) (fun i _ => n - (intOf i).toNat)
  case atStart => exact ⟨0, Nat.zero_le _, rfl, h4⟩
  case round =>
    clear h4
    obtain ⟨k, hk, rfl, h4⟩ := hrel
    have H4 := Lib.hid h4
    clear h4
    by_cases hlt : k < n
    · obtain ⟨ad, rfl, c0, c1⟩ := H4.out.2.1.at_ hlt
      obtain ⟨wo, rfl⟩ : ∃ wo : World, wo = wr := ⟨_, rfl⟩
      have H5 := Lib.hid (show RndS w R (some ad) B n m lv st pt al au wo.heap.size k (wo.alloc (.cells #[.int .i64 (lv k), .int .u16 (st k)] 26)) from ⟨H4.out.alloc _, by simp [go_sem], by simp [go_sem]⟩)
      clear H4
      go_wp2_with fail
      refine (part_is H5.out.1.1 _).mono ?_
      rintro e wm ⟨rfl, rfl⟩
      go_wp2_with fail
      refine (label_is H5.out.1.1 _).mono ?_
      rintro e w5 ⟨rfl, hb5⟩
      clear c0 c1
      have H6 := Lib.hid ((H5.out.keep hb5).alloc (.cells #[.int .i64 (labV n lv (partV m pt x)), .int .u16 (labV n st (partV m pt x))] 26))
      have x0 : (w5.alloc (.cells #[.int .i64 (labV n lv (partV m pt x)), .int .u16 (labV n st (partV m pt x))] 26)).cell? ⟨w5.heap.size, 0, none⟩ = some (.int .i64 (labV n lv (partV m pt x))) := by simp [go_sem]
      have x1 : (w5.alloc (.cells #[.int .i64 (labV n lv (partV m pt x)), .int .u16 (labV n st (partV m pt x))] 26)).cell? ⟨w5.heap.size, 1, none⟩ = some (.int .u16 (labV n st (partV m pt x))) := by simp [go_sem]
      clear hb5 H5
      go_upto_region 12 with fail
      go_cut [16, 80] (fun b t wx => b = .bool (thereB (partV m pt x) n) ∧ t = .bool false ∧ RndS w R (some ad) B n m lv st pt al au wo.heap.size k wx)
      case first =>
        cases t1 : thereB (partV m pt x) n
        · go_wp2_with fail
          go_meet
          exact ⟨by rw [t1], rfl, H6.out⟩
        · have e0 := H6.out.2.1
          have e1 := H6.out.2.2
          cases t2 : leqB (labV n lv (partV m pt x)) (labV n st (partV m pt x)) (lv k) (st k)
          · go_wp2_with (go_at_call 23; refine (refleq_is _ _ _ _ (labV_set HG.out.set _) (HG.out.set k hlt) false t2 _).mono ?_; rintro e w6 ⟨rfl, hb6⟩; have h6 := H6.out.keep hb6)
            go_meet
            exact ⟨by rw [t1], rfl, h6⟩
          · have t3 := may_up HG.out t1 t2
            go_wp2_with fail
            refine (refleq_is _ _ _ _ (labV_set HG.out.set _) (HG.out.set k hlt) true t2 _).mono ?_
            rintro e w6 ⟨rfl, hb6⟩
            have H7 := Lib.hid (H6.out.keep hb6)
            clear hb6 H6 x0 x1 e0 e1
            have e0 := H7.out.2.1
            have e1 := H7.out.2.2
            go_wp2_with fail
            refine (may_is H7.out.1.1 _ _ _).mono ?_
            rintro e w7 ⟨rfl, hb7⟩
            rw [t3]
            have h8 := H7.out.keep hb7
            clear hb7 H7 e0 e1
            go_wp2_with fail
            go_meet
            exact ⟨by rw [t1], rfl, h8⟩
      case rest =>
      obtain ⟨rfl, rfl, h6⟩ := hcut
      have H7 := Lib.hid h6
      clear h6 H6 x0 x1
      go_upto_region 14 with fail
      go_cut [16, 136] (fun _ t wx => t = .bool false ∧ RndS w R (some ad) B n m lv st pt al au wo.heap.size k wx)
      case first =>
        cases t1 : thereB (partV m pt x) n
        · go_quiet (fail)
          go_wp2_with fail
          go_meet
          exact ⟨rfl, H7.out.drewN _⟩
        · obtain ⟨i, hi, rfl⟩ := own_there t1
          by_cases y0 : (0 : Int) ≤ y
          · by_cases y1 : y < (m : Int)
            · obtain ⟨j, rfl⟩ : ∃ j : Nat, y = j := ⟨y.toNat, by omega⟩
              have hj : j < m := by omega
              clear y0 y1
              obtain ⟨bd, rfl, a0, a1, a2⟩ := H7.out.1.2.2.1.at_ hi
              obtain ⟨bd', e', b0, b1, b2⟩ := H7.out.1.2.2.1.at_ hj
              injection e' with e'
              subst e'
              have si := Lib.hid (HG.out.aset i hi)
              have sj := Lib.hid (HG.out.aset j hj)
              have HK := Lib.hid (show (HoldS wc [((bd.add (i * 3)), .int .i64 (pt i)), (⟨(bd.add (i * 3)).block, (bd.add (i * 3)).off + 1, none⟩, .int .i64 (al i)), (⟨(bd.add (i * 3)).block, (bd.add (i * 3)).off + 1 + 1, none⟩, .int .u16 (au i)), ((bd.add (j * 3)), .int .i64 (pt j)), (⟨(bd.add (j * 3)).block, (bd.add (j * 3)).off + 1, none⟩, .int .i64 (al j)), (⟨(bd.add (j * 3)).block, (bd.add (j * 3)).off + 1 + 1, none⟩, .int .u16 (au j)), (⟨wo.heap.size, 0, none⟩, .int .i64 (lv k)), (⟨wo.heap.size, 1, none⟩, .int .u16 (st k))] (RndS w R (some ad) (some bd) n m lv st pt al au wo.heap.size k)) (wc).drew from ⟨(cc a0 (cc a1 (cc a2 (cc b0 (cc b1 (cc b2 (cc H7.out.2.1 (cc H7.out.2.2 cn)))))))), (H7.out.drewN 1), (Below.refl _ _).drew⟩)
              clear a0 a1 a2 b0 b1 b2
              cases r1 : (pt i == pt j)
              · skip
                refine wp_region_kept _ (by kernel_rfl) (by kernel_rfl) HK.out ?_
                intro hne
                have f0 : ∀ x : HeldW (HoldS wc [((bd.add (i * 3)), .int .i64 (pt i)), (⟨(bd.add (i * 3)).block, (bd.add (i * 3)).off + 1, none⟩, .int .i64 (al i)), (⟨(bd.add (i * 3)).block, (bd.add (i * 3)).off + 1 + 1, none⟩, .int .u16 (au i)), ((bd.add (j * 3)), .int .i64 (pt j)), (⟨(bd.add (j * 3)).block, (bd.add (j * 3)).off + 1, none⟩, .int .i64 (al j)), (⟨(bd.add (j * 3)).block, (bd.add (j * 3)).off + 1 + 1, none⟩, .int .u16 (au j)), (⟨wo.heap.size, 0, none⟩, .int .i64 (lv k)), (⟨wo.heap.size, 1, none⟩, .int .u16 (st k))] (RndS w R (some ad) (some bd) n m lv st pt al au wo.heap.size k)), x.w.cell? (bd.add (i * 3)) = some (.int .i64 (pt i)) := fun x => x.at_ 0 rfl
                have f1 : ∀ x : HeldW (HoldS wc [((bd.add (i * 3)), .int .i64 (pt i)), (⟨(bd.add (i * 3)).block, (bd.add (i * 3)).off + 1, none⟩, .int .i64 (al i)), (⟨(bd.add (i * 3)).block, (bd.add (i * 3)).off + 1 + 1, none⟩, .int .u16 (au i)), ((bd.add (j * 3)), .int .i64 (pt j)), (⟨(bd.add (j * 3)).block, (bd.add (j * 3)).off + 1, none⟩, .int .i64 (al j)), (⟨(bd.add (j * 3)).block, (bd.add (j * 3)).off + 1 + 1, none⟩, .int .u16 (au j)), (⟨wo.heap.size, 0, none⟩, .int .i64 (lv k)), (⟨wo.heap.size, 1, none⟩, .int .u16 (st k))] (RndS w R (some ad) (some bd) n m lv st pt al au wo.heap.size k)), x.w.cell? ⟨(bd.add (i * 3)).block, (bd.add (i * 3)).off + 1, none⟩ = some (.int .i64 (al i)) := fun x => x.at_ 1 rfl
                have f2 : ∀ x : HeldW (HoldS wc [((bd.add (i * 3)), .int .i64 (pt i)), (⟨(bd.add (i * 3)).block, (bd.add (i * 3)).off + 1, none⟩, .int .i64 (al i)), (⟨(bd.add (i * 3)).block, (bd.add (i * 3)).off + 1 + 1, none⟩, .int .u16 (au i)), ((bd.add (j * 3)), .int .i64 (pt j)), (⟨(bd.add (j * 3)).block, (bd.add (j * 3)).off + 1, none⟩, .int .i64 (al j)), (⟨(bd.add (j * 3)).block, (bd.add (j * 3)).off + 1 + 1, none⟩, .int .u16 (au j)), (⟨wo.heap.size, 0, none⟩, .int .i64 (lv k)), (⟨wo.heap.size, 1, none⟩, .int .u16 (st k))] (RndS w R (some ad) (some bd) n m lv st pt al au wo.heap.size k)), x.w.cell? ⟨(bd.add (i * 3)).block, (bd.add (i * 3)).off + 1 + 1, none⟩ = some (.int .u16 (au i)) := fun x => x.at_ 2 rfl
                have f3 : ∀ x : HeldW (HoldS wc [((bd.add (i * 3)), .int .i64 (pt i)), (⟨(bd.add (i * 3)).block, (bd.add (i * 3)).off + 1, none⟩, .int .i64 (al i)), (⟨(bd.add (i * 3)).block, (bd.add (i * 3)).off + 1 + 1, none⟩, .int .u16 (au i)), ((bd.add (j * 3)), .int .i64 (pt j)), (⟨(bd.add (j * 3)).block, (bd.add (j * 3)).off + 1, none⟩, .int .i64 (al j)), (⟨(bd.add (j * 3)).block, (bd.add (j * 3)).off + 1 + 1, none⟩, .int .u16 (au j)), (⟨wo.heap.size, 0, none⟩, .int .i64 (lv k)), (⟨wo.heap.size, 1, none⟩, .int .u16 (st k))] (RndS w R (some ad) (some bd) n m lv st pt al au wo.heap.size k)), x.w.cell? (bd.add (j * 3)) = some (.int .i64 (pt j)) := fun x => x.at_ 3 rfl
                have f4 : ∀ x : HeldW (HoldS wc [((bd.add (i * 3)), .int .i64 (pt i)), (⟨(bd.add (i * 3)).block, (bd.add (i * 3)).off + 1, none⟩, .int .i64 (al i)), (⟨(bd.add (i * 3)).block, (bd.add (i * 3)).off + 1 + 1, none⟩, .int .u16 (au i)), ((bd.add (j * 3)), .int .i64 (pt j)), (⟨(bd.add (j * 3)).block, (bd.add (j * 3)).off + 1, none⟩, .int .i64 (al j)), (⟨(bd.add (j * 3)).block, (bd.add (j * 3)).off + 1 + 1, none⟩, .int .u16 (au j)), (⟨wo.heap.size, 0, none⟩, .int .i64 (lv k)), (⟨wo.heap.size, 1, none⟩, .int .u16 (st k))] (RndS w R (some ad) (some bd) n m lv st pt al au wo.heap.size k)), x.w.cell? ⟨(bd.add (j * 3)).block, (bd.add (j * 3)).off + 1, none⟩ = some (.int .i64 (al j)) := fun x => x.at_ 4 rfl
                have f5 : ∀ x : HeldW (HoldS wc [((bd.add (i * 3)), .int .i64 (pt i)), (⟨(bd.add (i * 3)).block, (bd.add (i * 3)).off + 1, none⟩, .int .i64 (al i)), (⟨(bd.add (i * 3)).block, (bd.add (i * 3)).off + 1 + 1, none⟩, .int .u16 (au i)), ((bd.add (j * 3)), .int .i64 (pt j)), (⟨(bd.add (j * 3)).block, (bd.add (j * 3)).off + 1, none⟩, .int .i64 (al j)), (⟨(bd.add (j * 3)).block, (bd.add (j * 3)).off + 1 + 1, none⟩, .int .u16 (au j)), (⟨wo.heap.size, 0, none⟩, .int .i64 (lv k)), (⟨wo.heap.size, 1, none⟩, .int .u16 (st k))] (RndS w R (some ad) (some bd) n m lv st pt al au wo.heap.size k)), x.w.cell? ⟨(bd.add (j * 3)).block, (bd.add (j * 3)).off + 1 + 1, none⟩ = some (.int .u16 (au j)) := fun x => x.at_ 5 rfl
                have f6 : ∀ x : HeldW (HoldS wc [((bd.add (i * 3)), .int .i64 (pt i)), (⟨(bd.add (i * 3)).block, (bd.add (i * 3)).off + 1, none⟩, .int .i64 (al i)), (⟨(bd.add (i * 3)).block, (bd.add (i * 3)).off + 1 + 1, none⟩, .int .u16 (au i)), ((bd.add (j * 3)), .int .i64 (pt j)), (⟨(bd.add (j * 3)).block, (bd.add (j * 3)).off + 1, none⟩, .int .i64 (al j)), (⟨(bd.add (j * 3)).block, (bd.add (j * 3)).off + 1 + 1, none⟩, .int .u16 (au j)), (⟨wo.heap.size, 0, none⟩, .int .i64 (lv k)), (⟨wo.heap.size, 1, none⟩, .int .u16 (st k))] (RndS w R (some ad) (some bd) n m lv st pt al au wo.heap.size k)), x.w.cell? ⟨wo.heap.size, 0, none⟩ = some (.int .i64 (lv k)) := fun x => x.at_ 6 rfl
                have f7 : ∀ x : HeldW (HoldS wc [((bd.add (i * 3)), .int .i64 (pt i)), (⟨(bd.add (i * 3)).block, (bd.add (i * 3)).off + 1, none⟩, .int .i64 (al i)), (⟨(bd.add (i * 3)).block, (bd.add (i * 3)).off + 1 + 1, none⟩, .int .u16 (au i)), ((bd.add (j * 3)), .int .i64 (pt j)), (⟨(bd.add (j * 3)).block, (bd.add (j * 3)).off + 1, none⟩, .int .i64 (al j)), (⟨(bd.add (j * 3)).block, (bd.add (j * 3)).off + 1 + 1, none⟩, .int .u16 (au j)), (⟨wo.heap.size, 0, none⟩, .int .i64 (lv k)), (⟨wo.heap.size, 1, none⟩, .int .u16 (st k))] (RndS w R (some ad) (some bd) n m lv st pt al au wo.heap.size k)), x.w.cell? ⟨wo.heap.size, 1, none⟩ = some (.int .u16 (st k)) := fun x => x.at_ 7 rfl
                repeat (go_big_quiet_step (first | (go_at_call 23; refine kept_of (HoldS.keep RndS.keep_) (refleq_is _ _ _ _ si.out sj.out _ rfl _)) | (go_at_call 16; rename_i xx; refine kept_of (HoldS.keep RndS.keep_) (may_is xx.ok.2.1.1.1 _ _ _))))
                refine wpQuiet_nil ?_
                rintro wz ⟨⟨_, hq⟩, rfl⟩
                obtain ⟨hcs, hez, hbz⟩ := hq
                clear f0 f1 f2 f3 f4 f5 f6 f7 hne hcs
                go_wp2_with fail
                go_meet
                exact ⟨rfl, hez⟩
              · cases r2 : leqB (al i) (au i) (al j) (au j)
                · skip
                  refine wp_region_kept _ (by kernel_rfl) (by kernel_rfl) HK.out ?_
                  intro hne
                  have f0 : ∀ x : HeldW (HoldS wc [((bd.add (i * 3)), .int .i64 (pt i)), (⟨(bd.add (i * 3)).block, (bd.add (i * 3)).off + 1, none⟩, .int .i64 (al i)), (⟨(bd.add (i * 3)).block, (bd.add (i * 3)).off + 1 + 1, none⟩, .int .u16 (au i)), ((bd.add (j * 3)), .int .i64 (pt j)), (⟨(bd.add (j * 3)).block, (bd.add (j * 3)).off + 1, none⟩, .int .i64 (al j)), (⟨(bd.add (j * 3)).block, (bd.add (j * 3)).off + 1 + 1, none⟩, .int .u16 (au j)), (⟨wo.heap.size, 0, none⟩, .int .i64 (lv k)), (⟨wo.heap.size, 1, none⟩, .int .u16 (st k))] (RndS w R (some ad) (some bd) n m lv st pt al au wo.heap.size k)), x.w.cell? (bd.add (i * 3)) = some (.int .i64 (pt i)) := fun x => x.at_ 0 rfl
                  have f1 : ∀ x : HeldW (HoldS wc [((bd.add (i * 3)), .int .i64 (pt i)), (⟨(bd.add (i * 3)).block, (bd.add (i * 3)).off + 1, none⟩, .int .i64 (al i)), (⟨(bd.add (i * 3)).block, (bd.add (i * 3)).off + 1 + 1, none⟩, .int .u16 (au i)), ((bd.add (j * 3)), .int .i64 (pt j)), (⟨(bd.add (j * 3)).block, (bd.add (j * 3)).off + 1, none⟩, .int .i64 (al j)), (⟨(bd.add (j * 3)).block, (bd.add (j * 3)).off + 1 + 1, none⟩, .int .u16 (au j)), (⟨wo.heap.size, 0, none⟩, .int .i64 (lv k)), (⟨wo.heap.size, 1, none⟩, .int .u16 (st k))] (RndS w R (some ad) (some bd) n m lv st pt al au wo.heap.size k)), x.w.cell? ⟨(bd.add (i * 3)).block, (bd.add (i * 3)).off + 1, none⟩ = some (.int .i64 (al i)) := fun x => x.at_ 1 rfl
                  have f2 : ∀ x : HeldW (HoldS wc [((bd.add (i * 3)), .int .i64 (pt i)), (⟨(bd.add (i * 3)).block, (bd.add (i * 3)).off + 1, none⟩, .int .i64 (al i)), (⟨(bd.add (i * 3)).block, (bd.add (i * 3)).off + 1 + 1, none⟩, .int .u16 (au i)), ((bd.add (j * 3)), .int .i64 (pt j)), (⟨(bd.add (j * 3)).block, (bd.add (j * 3)).off + 1, none⟩, .int .i64 (al j)), (⟨(bd.add (j * 3)).block, (bd.add (j * 3)).off + 1 + 1, none⟩, .int .u16 (au j)), (⟨wo.heap.size, 0, none⟩, .int .i64 (lv k)), (⟨wo.heap.size, 1, none⟩, .int .u16 (st k))] (RndS w R (some ad) (some bd) n m lv st pt al au wo.heap.size k)), x.w.cell? ⟨(bd.add (i * 3)).block, (bd.add (i * 3)).off + 1 + 1, none⟩ = some (.int .u16 (au i)) := fun x => x.at_ 2 rfl
                  have f3 : ∀ x : HeldW (HoldS wc [((bd.add (i * 3)), .int .i64 (pt i)), (⟨(bd.add (i * 3)).block, (bd.add (i * 3)).off + 1, none⟩, .int .i64 (al i)), (⟨(bd.add (i * 3)).block, (bd.add (i * 3)).off + 1 + 1, none⟩, .int .u16 (au i)), ((bd.add (j * 3)), .int .i64 (pt j)), (⟨(bd.add (j * 3)).block, (bd.add (j * 3)).off + 1, none⟩, .int .i64 (al j)), (⟨(bd.add (j * 3)).block, (bd.add (j * 3)).off + 1 + 1, none⟩, .int .u16 (au j)), (⟨wo.heap.size, 0, none⟩, .int .i64 (lv k)), (⟨wo.heap.size, 1, none⟩, .int .u16 (st k))] (RndS w R (some ad) (some bd) n m lv st pt al au wo.heap.size k)), x.w.cell? (bd.add (j * 3)) = some (.int .i64 (pt j)) := fun x => x.at_ 3 rfl
                  have f4 : ∀ x : HeldW (HoldS wc [((bd.add (i * 3)), .int .i64 (pt i)), (⟨(bd.add (i * 3)).block, (bd.add (i * 3)).off + 1, none⟩, .int .i64 (al i)), (⟨(bd.add (i * 3)).block, (bd.add (i * 3)).off + 1 + 1, none⟩, .int .u16 (au i)), ((bd.add (j * 3)), .int .i64 (pt j)), (⟨(bd.add (j * 3)).block, (bd.add (j * 3)).off + 1, none⟩, .int .i64 (al j)), (⟨(bd.add (j * 3)).block, (bd.add (j * 3)).off + 1 + 1, none⟩, .int .u16 (au j)), (⟨wo.heap.size, 0, none⟩, .int .i64 (lv k)), (⟨wo.heap.size, 1, none⟩, .int .u16 (st k))] (RndS w R (some ad) (some bd) n m lv st pt al au wo.heap.size k)), x.w.cell? ⟨(bd.add (j * 3)).block, (bd.add (j * 3)).off + 1, none⟩ = some (.int .i64 (al j)) := fun x => x.at_ 4 rfl
                  have f5 : ∀ x : HeldW (HoldS wc [((bd.add (i * 3)), .int .i64 (pt i)), (⟨(bd.add (i * 3)).block, (bd.add (i * 3)).off + 1, none⟩, .int .i64 (al i)), (⟨(bd.add (i * 3)).block, (bd.add (i * 3)).off + 1 + 1, none⟩, .int .u16 (au i)), ((bd.add (j * 3)), .int .i64 (pt j)), (⟨(bd.add (j * 3)).block, (bd.add (j * 3)).off + 1, none⟩, .int .i64 (al j)), (⟨(bd.add (j * 3)).block, (bd.add (j * 3)).off + 1 + 1, none⟩, .int .u16 (au j)), (⟨wo.heap.size, 0, none⟩, .int .i64 (lv k)), (⟨wo.heap.size, 1, none⟩, .int .u16 (st k))] (RndS w R (some ad) (some bd) n m lv st pt al au wo.heap.size k)), x.w.cell? ⟨(bd.add (j * 3)).block, (bd.add (j * 3)).off + 1 + 1, none⟩ = some (.int .u16 (au j)) := fun x => x.at_ 5 rfl
                  have f6 : ∀ x : HeldW (HoldS wc [((bd.add (i * 3)), .int .i64 (pt i)), (⟨(bd.add (i * 3)).block, (bd.add (i * 3)).off + 1, none⟩, .int .i64 (al i)), (⟨(bd.add (i * 3)).block, (bd.add (i * 3)).off + 1 + 1, none⟩, .int .u16 (au i)), ((bd.add (j * 3)), .int .i64 (pt j)), (⟨(bd.add (j * 3)).block, (bd.add (j * 3)).off + 1, none⟩, .int .i64 (al j)), (⟨(bd.add (j * 3)).block, (bd.add (j * 3)).off + 1 + 1, none⟩, .int .u16 (au j)), (⟨wo.heap.size, 0, none⟩, .int .i64 (lv k)), (⟨wo.heap.size, 1, none⟩, .int .u16 (st k))] (RndS w R (some ad) (some bd) n m lv st pt al au wo.heap.size k)), x.w.cell? ⟨wo.heap.size, 0, none⟩ = some (.int .i64 (lv k)) := fun x => x.at_ 6 rfl
                  have f7 : ∀ x : HeldW (HoldS wc [((bd.add (i * 3)), .int .i64 (pt i)), (⟨(bd.add (i * 3)).block, (bd.add (i * 3)).off + 1, none⟩, .int .i64 (al i)), (⟨(bd.add (i * 3)).block, (bd.add (i * 3)).off + 1 + 1, none⟩, .int .u16 (au i)), ((bd.add (j * 3)), .int .i64 (pt j)), (⟨(bd.add (j * 3)).block, (bd.add (j * 3)).off + 1, none⟩, .int .i64 (al j)), (⟨(bd.add (j * 3)).block, (bd.add (j * 3)).off + 1 + 1, none⟩, .int .u16 (au j)), (⟨wo.heap.size, 0, none⟩, .int .i64 (lv k)), (⟨wo.heap.size, 1, none⟩, .int .u16 (st k))] (RndS w R (some ad) (some bd) n m lv st pt al au wo.heap.size k)), x.w.cell? ⟨wo.heap.size, 1, none⟩ = some (.int .u16 (st k)) := fun x => x.at_ 7 rfl
                  repeat (go_big_quiet_step (first | (go_at_call 23; refine kept_of (HoldS.keep RndS.keep_) (refleq_is _ _ _ _ si.out sj.out _ rfl _)) | (go_at_call 16; rename_i xx; refine kept_of (HoldS.keep RndS.keep_) (may_is xx.ok.2.1.1.1 _ _ _))))
                  refine wpQuiet_nil ?_
                  rintro wz ⟨⟨_, hq⟩, rfl⟩
                  obtain ⟨hcs, hez, hbz⟩ := hq
                  clear f0 f1 f2 f3 f4 f5 f6 f7 hne hcs
                  go_wp2_with fail
                  go_meet
                  exact ⟨rfl, hez⟩
                · cases r3 : mayB n m lv st pt al au i (lv k) (st k)
                  · skip
                    refine wp_region_kept _ (by kernel_rfl) (by kernel_rfl) HK.out ?_
                    intro hne
                    have f0 : ∀ x : HeldW (HoldS wc [((bd.add (i * 3)), .int .i64 (pt i)), (⟨(bd.add (i * 3)).block, (bd.add (i * 3)).off + 1, none⟩, .int .i64 (al i)), (⟨(bd.add (i * 3)).block, (bd.add (i * 3)).off + 1 + 1, none⟩, .int .u16 (au i)), ((bd.add (j * 3)), .int .i64 (pt j)), (⟨(bd.add (j * 3)).block, (bd.add (j * 3)).off + 1, none⟩, .int .i64 (al j)), (⟨(bd.add (j * 3)).block, (bd.add (j * 3)).off + 1 + 1, none⟩, .int .u16 (au j)), (⟨wo.heap.size, 0, none⟩, .int .i64 (lv k)), (⟨wo.heap.size, 1, none⟩, .int .u16 (st k))] (RndS w R (some ad) (some bd) n m lv st pt al au wo.heap.size k)), x.w.cell? (bd.add (i * 3)) = some (.int .i64 (pt i)) := fun x => x.at_ 0 rfl
                    have f1 : ∀ x : HeldW (HoldS wc [((bd.add (i * 3)), .int .i64 (pt i)), (⟨(bd.add (i * 3)).block, (bd.add (i * 3)).off + 1, none⟩, .int .i64 (al i)), (⟨(bd.add (i * 3)).block, (bd.add (i * 3)).off + 1 + 1, none⟩, .int .u16 (au i)), ((bd.add (j * 3)), .int .i64 (pt j)), (⟨(bd.add (j * 3)).block, (bd.add (j * 3)).off + 1, none⟩, .int .i64 (al j)), (⟨(bd.add (j * 3)).block, (bd.add (j * 3)).off + 1 + 1, none⟩, .int .u16 (au j)), (⟨wo.heap.size, 0, none⟩, .int .i64 (lv k)), (⟨wo.heap.size, 1, none⟩, .int .u16 (st k))] (RndS w R (some ad) (some bd) n m lv st pt al au wo.heap.size k)), x.w.cell? ⟨(bd.add (i * 3)).block, (bd.add (i * 3)).off + 1, none⟩ = some (.int .i64 (al i)) := fun x => x.at_ 1 rfl
                    have f2 : ∀ x : HeldW (HoldS wc [((bd.add (i * 3)), .int .i64 (pt i)), (⟨(bd.add (i * 3)).block, (bd.add (i * 3)).off + 1, none⟩, .int .i64 (al i)), (⟨(bd.add (i * 3)).block, (bd.add (i * 3)).off + 1 + 1, none⟩, .int .u16 (au i)), ((bd.add (j * 3)), .int .i64 (pt j)), (⟨(bd.add (j * 3)).block, (bd.add (j * 3)).off + 1, none⟩, .int .i64 (al j)), (⟨(bd.add (j * 3)).block, (bd.add (j * 3)).off + 1 + 1, none⟩, .int .u16 (au j)), (⟨wo.heap.size, 0, none⟩, .int .i64 (lv k)), (⟨wo.heap.size, 1, none⟩, .int .u16 (st k))] (RndS w R (some ad) (some bd) n m lv st pt al au wo.heap.size k)), x.w.cell? ⟨(bd.add (i * 3)).block, (bd.add (i * 3)).off + 1 + 1, none⟩ = some (.int .u16 (au i)) := fun x => x.at_ 2 rfl
                    have f3 : ∀ x : HeldW (HoldS wc [((bd.add (i * 3)), .int .i64 (pt i)), (⟨(bd.add (i * 3)).block, (bd.add (i * 3)).off + 1, none⟩, .int .i64 (al i)), (⟨(bd.add (i * 3)).block, (bd.add (i * 3)).off + 1 + 1, none⟩, .int .u16 (au i)), ((bd.add (j * 3)), .int .i64 (pt j)), (⟨(bd.add (j * 3)).block, (bd.add (j * 3)).off + 1, none⟩, .int .i64 (al j)), (⟨(bd.add (j * 3)).block, (bd.add (j * 3)).off + 1 + 1, none⟩, .int .u16 (au j)), (⟨wo.heap.size, 0, none⟩, .int .i64 (lv k)), (⟨wo.heap.size, 1, none⟩, .int .u16 (st k))] (RndS w R (some ad) (some bd) n m lv st pt al au wo.heap.size k)), x.w.cell? (bd.add (j * 3)) = some (.int .i64 (pt j)) := fun x => x.at_ 3 rfl
                    have f4 : ∀ x : HeldW (HoldS wc [((bd.add (i * 3)), .int .i64 (pt i)), (⟨(bd.add (i * 3)).block, (bd.add (i * 3)).off + 1, none⟩, .int .i64 (al i)), (⟨(bd.add (i * 3)).block, (bd.add (i * 3)).off + 1 + 1, none⟩, .int .u16 (au i)), ((bd.add (j * 3)), .int .i64 (pt j)), (⟨(bd.add (j * 3)).block, (bd.add (j * 3)).off + 1, none⟩, .int .i64 (al j)), (⟨(bd.add (j * 3)).block, (bd.add (j * 3)).off + 1 + 1, none⟩, .int .u16 (au j)), (⟨wo.heap.size, 0, none⟩, .int .i64 (lv k)), (⟨wo.heap.size, 1, none⟩, .int .u16 (st k))] (RndS w R (some ad) (some bd) n m lv st pt al au wo.heap.size k)), x.w.cell? ⟨(bd.add (j * 3)).block, (bd.add (j * 3)).off + 1, none⟩ = some (.int .i64 (al j)) := fun x => x.at_ 4 rfl
                    have f5 : ∀ x : HeldW (HoldS wc [((bd.add (i * 3)), .int .i64 (pt i)), (⟨(bd.add (i * 3)).block, (bd.add (i * 3)).off + 1, none⟩, .int .i64 (al i)), (⟨(bd.add (i * 3)).block, (bd.add (i * 3)).off + 1 + 1, none⟩, .int .u16 (au i)), ((bd.add (j * 3)), .int .i64 (pt j)), (⟨(bd.add (j * 3)).block, (bd.add (j * 3)).off + 1, none⟩, .int .i64 (al j)), (⟨(bd.add (j * 3)).block, (bd.add (j * 3)).off + 1 + 1, none⟩, .int .u16 (au j)), (⟨wo.heap.size, 0, none⟩, .int .i64 (lv k)), (⟨wo.heap.size, 1, none⟩, .int .u16 (st k))] (RndS w R (some ad) (some bd) n m lv st pt al au wo.heap.size k)), x.w.cell? ⟨(bd.add (j * 3)).block, (bd.add (j * 3)).off + 1 + 1, none⟩ = some (.int .u16 (au j)) := fun x => x.at_ 5 rfl
                    have f6 : ∀ x : HeldW (HoldS wc [((bd.add (i * 3)), .int .i64 (pt i)), (⟨(bd.add (i * 3)).block, (bd.add (i * 3)).off + 1, none⟩, .int .i64 (al i)), (⟨(bd.add (i * 3)).block, (bd.add (i * 3)).off + 1 + 1, none⟩, .int .u16 (au i)), ((bd.add (j * 3)), .int .i64 (pt j)), (⟨(bd.add (j * 3)).block, (bd.add (j * 3)).off + 1, none⟩, .int .i64 (al j)), (⟨(bd.add (j * 3)).block, (bd.add (j * 3)).off + 1 + 1, none⟩, .int .u16 (au j)), (⟨wo.heap.size, 0, none⟩, .int .i64 (lv k)), (⟨wo.heap.size, 1, none⟩, .int .u16 (st k))] (RndS w R (some ad) (some bd) n m lv st pt al au wo.heap.size k)), x.w.cell? ⟨wo.heap.size, 0, none⟩ = some (.int .i64 (lv k)) := fun x => x.at_ 6 rfl
                    have f7 : ∀ x : HeldW (HoldS wc [((bd.add (i * 3)), .int .i64 (pt i)), (⟨(bd.add (i * 3)).block, (bd.add (i * 3)).off + 1, none⟩, .int .i64 (al i)), (⟨(bd.add (i * 3)).block, (bd.add (i * 3)).off + 1 + 1, none⟩, .int .u16 (au i)), ((bd.add (j * 3)), .int .i64 (pt j)), (⟨(bd.add (j * 3)).block, (bd.add (j * 3)).off + 1, none⟩, .int .i64 (al j)), (⟨(bd.add (j * 3)).block, (bd.add (j * 3)).off + 1 + 1, none⟩, .int .u16 (au j)), (⟨wo.heap.size, 0, none⟩, .int .i64 (lv k)), (⟨wo.heap.size, 1, none⟩, .int .u16 (st k))] (RndS w R (some ad) (some bd) n m lv st pt al au wo.heap.size k)), x.w.cell? ⟨wo.heap.size, 1, none⟩ = some (.int .u16 (st k)) := fun x => x.at_ 7 rfl
                    repeat (go_big_quiet_step (first | (go_at_call 23; refine kept_of (HoldS.keep RndS.keep_) (refleq_is _ _ _ _ si.out sj.out _ rfl _)) | (go_at_call 16; rename_i xx; refine kept_of (HoldS.keep RndS.keep_) (may_is xx.ok.2.1.1.1 _ _ _))))
                    refine wpQuiet_nil ?_
                    rintro wz ⟨⟨_, hq⟩, rfl⟩
                    obtain ⟨hcs, hez, hbz⟩ := hq
                    clear f0 f1 f2 f3 f4 f5 f6 f7 hne hcs
                    go_wp2_with fail
                    go_meet
                    exact ⟨rfl, hez⟩
                  · have r4 := may_more HG.out (HG.out.set k hlt) hi hj (by simpa using r1) r2 r3
                    refine wp_region_kept _ (by kernel_rfl) (by kernel_rfl) HK.out ?_
                    intro hne
                    have f0 : ∀ x : HeldW (HoldS wc [((bd.add (i * 3)), .int .i64 (pt i)), (⟨(bd.add (i * 3)).block, (bd.add (i * 3)).off + 1, none⟩, .int .i64 (al i)), (⟨(bd.add (i * 3)).block, (bd.add (i * 3)).off + 1 + 1, none⟩, .int .u16 (au i)), ((bd.add (j * 3)), .int .i64 (pt j)), (⟨(bd.add (j * 3)).block, (bd.add (j * 3)).off + 1, none⟩, .int .i64 (al j)), (⟨(bd.add (j * 3)).block, (bd.add (j * 3)).off + 1 + 1, none⟩, .int .u16 (au j)), (⟨wo.heap.size, 0, none⟩, .int .i64 (lv k)), (⟨wo.heap.size, 1, none⟩, .int .u16 (st k))] (RndS w R (some ad) (some bd) n m lv st pt al au wo.heap.size k)), x.w.cell? (bd.add (i * 3)) = some (.int .i64 (pt i)) := fun x => x.at_ 0 rfl
                    have f1 : ∀ x : HeldW (HoldS wc [((bd.add (i * 3)), .int .i64 (pt i)), (⟨(bd.add (i * 3)).block, (bd.add (i * 3)).off + 1, none⟩, .int .i64 (al i)), (⟨(bd.add (i * 3)).block, (bd.add (i * 3)).off + 1 + 1, none⟩, .int .u16 (au i)), ((bd.add (j * 3)), .int .i64 (pt j)), (⟨(bd.add (j * 3)).block, (bd.add (j * 3)).off + 1, none⟩, .int .i64 (al j)), (⟨(bd.add (j * 3)).block, (bd.add (j * 3)).off + 1 + 1, none⟩, .int .u16 (au j)), (⟨wo.heap.size, 0, none⟩, .int .i64 (lv k)), (⟨wo.heap.size, 1, none⟩, .int .u16 (st k))] (RndS w R (some ad) (some bd) n m lv st pt al au wo.heap.size k)), x.w.cell? ⟨(bd.add (i * 3)).block, (bd.add (i * 3)).off + 1, none⟩ = some (.int .i64 (al i)) := fun x => x.at_ 1 rfl
                    have f2 : ∀ x : HeldW (HoldS wc [((bd.add (i * 3)), .int .i64 (pt i)), (⟨(bd.add (i * 3)).block, (bd.add (i * 3)).off + 1, none⟩, .int .i64 (al i)), (⟨(bd.add (i * 3)).block, (bd.add (i * 3)).off + 1 + 1, none⟩, .int .u16 (au i)), ((bd.add (j * 3)), .int .i64 (pt j)), (⟨(bd.add (j * 3)).block, (bd.add (j * 3)).off + 1, none⟩, .int .i64 (al j)), (⟨(bd.add (j * 3)).block, (bd.add (j * 3)).off + 1 + 1, none⟩, .int .u16 (au j)), (⟨wo.heap.size, 0, none⟩, .int .i64 (lv k)), (⟨wo.heap.size, 1, none⟩, .int .u16 (st k))] (RndS w R (some ad) (some bd) n m lv st pt al au wo.heap.size k)), x.w.cell? ⟨(bd.add (i * 3)).block, (bd.add (i * 3)).off + 1 + 1, none⟩ = some (.int .u16 (au i)) := fun x => x.at_ 2 rfl
                    have f3 : ∀ x : HeldW (HoldS wc [((bd.add (i * 3)), .int .i64 (pt i)), (⟨(bd.add (i * 3)).block, (bd.add (i * 3)).off + 1, none⟩, .int .i64 (al i)), (⟨(bd.add (i * 3)).block, (bd.add (i * 3)).off + 1 + 1, none⟩, .int .u16 (au i)), ((bd.add (j * 3)), .int .i64 (pt j)), (⟨(bd.add (j * 3)).block, (bd.add (j * 3)).off + 1, none⟩, .int .i64 (al j)), (⟨(bd.add (j * 3)).block, (bd.add (j * 3)).off + 1 + 1, none⟩, .int .u16 (au j)), (⟨wo.heap.size, 0, none⟩, .int .i64 (lv k)), (⟨wo.heap.size, 1, none⟩, .int .u16 (st k))] (RndS w R (some ad) (some bd) n m lv st pt al au wo.heap.size k)), x.w.cell? (bd.add (j * 3)) = some (.int .i64 (pt j)) := fun x => x.at_ 3 rfl
                    have f4 : ∀ x : HeldW (HoldS wc [((bd.add (i * 3)), .int .i64 (pt i)), (⟨(bd.add (i * 3)).block, (bd.add (i * 3)).off + 1, none⟩, .int .i64 (al i)), (⟨(bd.add (i * 3)).block, (bd.add (i * 3)).off + 1 + 1, none⟩, .int .u16 (au i)), ((bd.add (j * 3)), .int .i64 (pt j)), (⟨(bd.add (j * 3)).block, (bd.add (j * 3)).off + 1, none⟩, .int .i64 (al j)), (⟨(bd.add (j * 3)).block, (bd.add (j * 3)).off + 1 + 1, none⟩, .int .u16 (au j)), (⟨wo.heap.size, 0, none⟩, .int .i64 (lv k)), (⟨wo.heap.size, 1, none⟩, .int .u16 (st k))] (RndS w R (some ad) (some bd) n m lv st pt al au wo.heap.size k)), x.w.cell? ⟨(bd.add (j * 3)).block, (bd.add (j * 3)).off + 1, none⟩ = some (.int .i64 (al j)) := fun x => x.at_ 4 rfl
                    have f5 : ∀ x : HeldW (HoldS wc [((bd.add (i * 3)), .int .i64 (pt i)), (⟨(bd.add (i * 3)).block, (bd.add (i * 3)).off + 1, none⟩, .int .i64 (al i)), (⟨(bd.add (i * 3)).block, (bd.add (i * 3)).off + 1 + 1, none⟩, .int .u16 (au i)), ((bd.add (j * 3)), .int .i64 (pt j)), (⟨(bd.add (j * 3)).block, (bd.add (j * 3)).off + 1, none⟩, .int .i64 (al j)), (⟨(bd.add (j * 3)).block, (bd.add (j * 3)).off + 1 + 1, none⟩, .int .u16 (au j)), (⟨wo.heap.size, 0, none⟩, .int .i64 (lv k)), (⟨wo.heap.size, 1, none⟩, .int .u16 (st k))] (RndS w R (some ad) (some bd) n m lv st pt al au wo.heap.size k)), x.w.cell? ⟨(bd.add (j * 3)).block, (bd.add (j * 3)).off + 1 + 1, none⟩ = some (.int .u16 (au j)) := fun x => x.at_ 5 rfl
                    have f6 : ∀ x : HeldW (HoldS wc [((bd.add (i * 3)), .int .i64 (pt i)), (⟨(bd.add (i * 3)).block, (bd.add (i * 3)).off + 1, none⟩, .int .i64 (al i)), (⟨(bd.add (i * 3)).block, (bd.add (i * 3)).off + 1 + 1, none⟩, .int .u16 (au i)), ((bd.add (j * 3)), .int .i64 (pt j)), (⟨(bd.add (j * 3)).block, (bd.add (j * 3)).off + 1, none⟩, .int .i64 (al j)), (⟨(bd.add (j * 3)).block, (bd.add (j * 3)).off + 1 + 1, none⟩, .int .u16 (au j)), (⟨wo.heap.size, 0, none⟩, .int .i64 (lv k)), (⟨wo.heap.size, 1, none⟩, .int .u16 (st k))] (RndS w R (some ad) (some bd) n m lv st pt al au wo.heap.size k)), x.w.cell? ⟨wo.heap.size, 0, none⟩ = some (.int .i64 (lv k)) := fun x => x.at_ 6 rfl
                    have f7 : ∀ x : HeldW (HoldS wc [((bd.add (i * 3)), .int .i64 (pt i)), (⟨(bd.add (i * 3)).block, (bd.add (i * 3)).off + 1, none⟩, .int .i64 (al i)), (⟨(bd.add (i * 3)).block, (bd.add (i * 3)).off + 1 + 1, none⟩, .int .u16 (au i)), ((bd.add (j * 3)), .int .i64 (pt j)), (⟨(bd.add (j * 3)).block, (bd.add (j * 3)).off + 1, none⟩, .int .i64 (al j)), (⟨(bd.add (j * 3)).block, (bd.add (j * 3)).off + 1 + 1, none⟩, .int .u16 (au j)), (⟨wo.heap.size, 0, none⟩, .int .i64 (lv k)), (⟨wo.heap.size, 1, none⟩, .int .u16 (st k))] (RndS w R (some ad) (some bd) n m lv st pt al au wo.heap.size k)), x.w.cell? ⟨wo.heap.size, 1, none⟩ = some (.int .u16 (st k)) := fun x => x.at_ 7 rfl
                    repeat (go_big_quiet_step (first | (go_at_call 23; refine kept_of (HoldS.keep RndS.keep_) (refleq_is _ _ _ _ si.out sj.out _ rfl _)) | (go_at_call 16; rename_i xx; refine kept_of (HoldS.keep RndS.keep_) (may_is xx.ok.2.1.1.1 _ _ _))))
                    refine wpQuiet_nil ?_
                    rintro wz ⟨⟨_, hq⟩, rfl⟩
                    obtain ⟨hcs, hez, hbz⟩ := hq
                    clear f0 f1 f2 f3 f4 f5 f6 f7 hne hcs
                    go_wp2_with fail
                    go_meet
                    exact ⟨rfl, hez⟩
            · have q1 : decide (y < (m : Int)) = false := by simpa using y1
              have q2 : decide ((0 : Int) ≤ y) = true := by simpa using y0
              go_quiet (fail)
              go_wp2_with fail
              go_meet
              exact ⟨rfl, H7.out.drewN _⟩
          · have q1 : decide ((0 : Int) ≤ y) = false := by simpa using y0
            go_quiet (fail)
            go_wp2_with fail
            go_meet
            exact ⟨rfl, H7.out.drewN _⟩
      case rest =>
      obtain ⟨rfl, h6⟩ := hcut
      clear H7
      have H8 := Lib.hid h6
      clear h6
      have e0 := H8.out.2.1
      have e1 := H8.out.2.2
      have hfind := find_is H8.out.1.1 (lv k) (st k)
      rw [find_own HG.out hlt] at hfind
      have HFI := Lib.hid hfind
      clear hfind
      have kk : ((k : Int) != (k : Int)) = false := by simp
      go_wp2_with fail
      refine HFI.out.mono ?_
      clear HFI
      rintro e w9 ⟨rfl, hb9⟩
      have h9 := (H8.out.keep hb9).1
      clear hb9 H8 e0 e1
      go_wp2_with fail
      go_roundw
      case rel => exact ⟨k + 1, by omega, by go_num, h9⟩
      case measure => simp [intOf]; omega
    · go_wp2_with fail
      go_ret
      exact ⟨rfl, H4.out.2.2.2⟩

theorem rosterFlows_walk (x y p : Int) (hl : LabsAt w A n lv st) (hc : n ≤ c) (_ : A = none → n = 0 ∧ c = 0) (hst : ∀ i, i < n → SetN (st i)) (hp : PepsAt w B m pt al au) (_ : B = none → m = 0 ∧ d = 0) (hau : ∀ i, i < m → SetN (au i)) :
    Calls Try.prog 4 #[.slice A n c, .slice B m d, .int .i64 x, .int .i64 y, .int .i64 p] w fun e w' => e = .returned (.bool true) ∧ Below w.heap.size w w' := by
  by_cases hf : faultV n m lv st pt al = 0
  · exact flows_good hl hp hc hst hau hf x y p
  · exact flows_bad hl hp hf x y p

end
end Go.Proofs.Ytnehcaefafdiaaa
