/-
  The program's check is what layer 10's laws ask; awake. Conditions: what the library's variable holds.
-/
import Derived.Test.YtcddbpdebklhnaaGreatDoorChkD
import Derived.Test.YtcddbpdebklhnaaGreatDoorChkAw
namespace Go.Proofs.YtcddbpdebklhnaaGreatDoor
open Go.RowKit

theorem check_ok : CheckOk where
  check := fun {w A c R nl m lv st pt al au n ts} part hA hcp hF hs hR _ => by
    refine (ccheck_is (Pb := fun b => b = true → RightI n ts) part hA hcp hF.2.1 hs (fun W hb => rightI_may (hA.later hb) hF) (fun h => h rfl) hR).mono ?_
    rintro e w' ⟨hb, h⟩
    refine ⟨hb, ?_⟩
    rcases h with ⟨rfl, ht, hp, _, hw⟩ | ⟨F, rfl, hF, _⟩ | ⟨F, rfl, hF, _⟩ | ⟨F, k, t, rfl, hF, _⟩
    · exact .inl ⟨rfl, hp rfl, ht, fun t hm => fit_of ht (hw t hm)⟩
    · exact .inr ⟨F, _, _, rfl, hF⟩
    · exact .inr ⟨F, _, _, rfl, hF⟩
    · exact .inr ⟨F, _, _, rfl, hF⟩
  targets := fun {w A c R nl m lv st pt al au n ts} hA hcp hRI hs hR _ => ctargets_is hA hcp hRI hs hR
  voters := fun {w R nl m lv st pt al au} part l s _ hR _ => cvoters_is part l s hR
  votersNo := fun {w} part l s => cvoters_no part l s
  checkNo := fun {w} part => ccheck_no part
/-- The awake pipeline, with numbers of any kind. -/
abbrev ckTi : List TkI := [⟨⟨#[97]⟩, [], 0, 1, 0, 0, 0⟩, ⟨⟨#[103]⟩, [0], 0, 1, 1, 0, 0⟩]
theorem ckTi_of {w : World} {A : Option Addr} (h : TksAt w A ckT) : TksI w A ckTi := fun _ => by
  obtain ⟨ad, e, hc⟩ := h (by decide)
  refine ⟨ad, e, fun i t hi => ?_⟩
  match i with
  | 0 =>
    obtain rfl := Option.some.inj hi
    obtain ⟨B, c, h1, h2, h3⟩ := hc 0 _ rfl
    exact ⟨B, c, h1, fun h => absurd h (Nat.lt_irrefl _), h3⟩
  | 1 =>
    obtain rfl := Option.some.inj hi
    obtain ⟨B, c, h1, h2, h3⟩ := hc 1 _ rfl
    refine ⟨B, c, h1, fun _ => ?_, h3⟩
    obtain ⟨bd, e2, h4⟩ := h2 (by decide)
    refine ⟨bd, e2, fun j n hj => ?_⟩
    match j with
    | 0 =>
      obtain rfl := Option.some.inj hj
      exact h4 0 0 rfl
    | j + 1 => simp at hj
  | i + 2 => simp at hi
theorem ckTi_right : RightI ckN ckTi := by
  have hn : ∀ a : UInt8, a = 97 ∨ a = 103 ∨ a = 112 → nameOk ⟨#[a]⟩ := by
    rintro a (rfl | rfl | rfl) <;> exact of_decide_eq_true (by decide +kernel)
  refine ⟨hn _ (by decide), by decide, fun i t hi => ?_⟩
  match i with
  | 0 =>
    obtain rfl := Option.some.inj hi
    exact ⟨⟨hn _ (by decide), by decide, by decide, by decide, by decide, fun _ => ⟨rfl, rfl⟩, fun h => absurd h (by decide), fun i v h => by simp at h⟩, fun j u hj => absurd hj (Nat.not_lt_zero _)⟩
  | 1 =>
    obtain rfl := Option.some.inj hi
    refine ⟨⟨hn _ (by decide), by decide, by decide, by decide, by decide, fun h => absurd h (by decide), fun _ => rfl, fun i v h => ?_⟩, fun j u hj hu => ?_⟩
    · match i with
      | 0 =>
        obtain rfl := Option.some.inj h
        exact ⟨by decide, by decide, fun j u hj => absurd hj (Nat.not_lt_zero _)⟩
      | i + 1 => simp at h
    · obtain rfl : j = 0 := by omega
      obtain rfl := Option.some.inj hu
      decide
  | i + 2 => simp at hi
theorem ckTi_few : ∀ t ∈ ckTi, 0 ≤ t.st ∧ t.st ≤ 65535 := by decide
theorem ck_round : roundI ckN ckTi = -1 := by decide +kernel
theorem ck_fit : ∀ t ∈ ckTi, t.need ≠ 0 → wrongV 2 1 ckL ckS ck1 ck3 ck1 1 t = 0 := by decide +kernel
theorem ck_low : wrongV 2 1 ckL ckS ck1 ck3 ck1 0 ⟨⟨#[103]⟩, [0], 0, 1, 1, 0, 0⟩ = 9 := by decide +kernel
theorem ck_votes : votersL 2 1 ckL ckS ck1 ck3 ck1 1 0 0 = [0] := by decide +kernel
theorem ck_goal : ckTi.map (targetI 2 ckL ckS) = [-1, 0] := by decide +kernel
theorem ck_at {k : Nat} {t : TkI} (h : ckTi[k]? = some t) (hn : t.need ≠ 0) : k = 1 ∧ t = ⟨⟨#[103]⟩, [0], 0, 1, 1, 0, 0⟩ := by
  match k with
  | 0 =>
    obtain rfl := Option.some.inj h
    exact absurd rfl hn
  | 1 => exact ⟨rfl, (Option.some.inj h).symm⟩
  | k + 2 => simp at h
section
variable {w : World} {A : Option Addr} {c R : Nat}
theorem ck_check (p : Int) (hA : TksAt w A ckT) (hc : 2 ≤ c) (hR : RosAt w R 2 1 ckL ckS ck1 ck3 ck1) :
    Calls Tryz.prog 9 #[.agg #[.string ckN, .slice A (2 : Nat) c], .pointer (some ⟨R, 0, none⟩), .int .i64 p] w (CkAns (fun b => b = true) ckN ckTi 2 1 ckL ckS ck1 ck3 ck1 p (thereB p 2) w) :=
  ccheck_is (ts := ckTi) p (ckTi_of hA) hc (by decide) ckTi_few (fun W hb => rightI_yes ((ckTi_of hA).later hb) ckTi_right ckTi_few) (fun _ => ckTi_right) hR
end
theorem chk_aw : ChkAw where
  fit := fun {w A c R} hA hc hR => by
    refine (ck_check 1 hA hc hR).mono ?_
    rintro e w' ⟨hb, h⟩
    refine ⟨?_, hb⟩
    rcases h with ⟨rfl, _⟩ | ⟨F, rfl, hF, h | h⟩ | ⟨F, rfl, hF, _, h⟩ | ⟨F, k, t, rfl, hF, _, ht, hn, hw⟩
    · rfl
    · exact absurd h (by decide)
    · cases h
    · rw [ck_round] at h; omega
    · exact absurd (ck_fit t (List.mem_of_getElem? ht) hn) hw
  low := fun {w A c R} hA hc hR => by
    refine (ck_check 0 hA hc hR).mono ?_
    rintro e w' ⟨hb, h⟩
    refine ⟨?_, hb⟩
    rcases h with ⟨rfl, _, _, _, h⟩ | ⟨F, rfl, hF, h | h⟩ | ⟨F, rfl, hF, _, h⟩ | ⟨F, k, t, rfl, hF, _, ht, hn, hw⟩
    · have h1 := h ⟨⟨#[103]⟩, [0], 0, 1, 1, 0, 0⟩ (List.mem_of_getElem? (i := 1) rfl) (by decide)
      rw [ck_low] at h1
      cases h1
    · exact absurd h (by decide)
    · cases h
    · rw [ck_round] at h; omega
    · obtain ⟨rfl, rfl⟩ := ck_at ht hn
      rw [ck_low] at hF
      exact ⟨F, rfl, hF⟩
  none_ := fun {w A c R} hA hc hR => by
    refine (ck_check 2 hA hc hR).mono ?_
    rintro e w' ⟨hb, h⟩
    refine ⟨?_, hb⟩
    rcases h with ⟨_, h, _⟩ | ⟨F, rfl, hF, _⟩ | ⟨F, _, _, h, _⟩ | ⟨F, k, t, _, _, h, _⟩
    · exact absurd h (by decide)
    · exact ⟨F, rfl, hF⟩
    · exact absurd h (by decide)
    · exact absurd h (by decide)
  voters := fun {w R} hR => by
    have h := cvoters_is 1 0 0 hR
    rw [ck_votes] at h
    exact h
  targets := fun {w A c R} hA hc hR => by
    have h := ctargets_is (n := ckN) (ts := ckTi) (ckTi_of hA) hc ckTi_right ckTi_few hR
    rw [ck_goal] at h
    exact h
theorem chkawake_true {w : World} (hV : VarE w) : Calls Tryz.prog 5 #[] w fun e w' => e = .returned (.bool true) ∧ Below w.heap.size w w' := chkawake_of chk_aw hV
end Go.Proofs.YtcddbpdebklhnaaGreatDoor
