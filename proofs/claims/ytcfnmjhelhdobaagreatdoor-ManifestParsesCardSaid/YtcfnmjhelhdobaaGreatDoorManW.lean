/-
  What the laws ask of the program's manifests, in one bundle; the statement ManifestParses, walked over it. Conditions: what the library's variable errors.errorType holds; awake.
-/
import Derived.Test.YtcfnmjhelhdobaaGreatDoorManH
import Derived.Test.YtcfnmjhelhdobaaGreatDoorManV
import Derived.Test.YtcfnmjhelhdobaaGreatDoorManO
import Derived.Test.YtcfnmjhelhdobaaGreatDoorLexE
namespace Go.Proofs.YtcfnmjhelhdobaaGreatDoor
open Go.RowKit

abbrev pipV (n : ByteArray) (A : Option Addr) (l c : Nat) : Value := .agg #[.string n, .slice A l c]
/-- What Parse answers. -/
def PrsOut (w : World) (r : FaP ⊕ PiP) (e : Ending) (w' : World) : Prop := Below w.heap.size w w' ∧ match r with
  | .inl f => ∃ A c F, e = .returned (.tuple #[pipV ⟨#[]⟩ A 0 c, fltV F]) ∧ FaultAt w' F f.p f.e
  | .inr p => ∃ A c, e = .returned (.tuple #[pipV p.name A p.tasks.length c, .nilIface]) ∧ TksAt w' A p.tasks
/-- What is asked of the program's manifests. -/
structure ManOk : Prop where
  at_ : AtOk
  parse : ∀ {w : World} (s : ByteArray), VarL w → s.size ≤ 9223372036854775807 → Calls Tryz.prog 8 #[.string s] w (PrsOut w (parseP s))
  print : ∀ {w : World} {A : Option Addr} {c : Nat} {p : PiP}, VarL w → TksAt w A p.tasks → RightPi p → Calls Tryz.prog 13 #[pipV p.name A p.tasks.length c] w fun e w' => e = .returned (.tuple #[.string (if (textP p).size ≤ 600 then textP p else ⟨#[]⟩), .int .i64 (if (textP p).size ≤ 600 then 0 else 4)]) ∧ Below w.heap.size w w'
  printNo : ∀ {w : World}, VarL w → Calls Tryz.prog 13 #[.agg #[.string ⟨#[]⟩, .slice none 0 0]] w fun e w' => e = .returned (.tuple #[.string ⟨#[]⟩, .int .i64 1]) ∧ Below w.heap.size w w'
  right : ∀ {w : World} {A : Option Addr} {c : Nat} {p : PiP}, VarL w → TksAt w A p.tasks → RightPi p → Calls Tryz.prog 15 #[pipV p.name A p.tasks.length c] w fun e w' => e = .returned (.bool true) ∧ Below w.heap.size w w'
  same : ∀ {w : World} {A B : Option Addr} {c d : Nat} {p q : PiP}, VarL w → TksAt w A p.tasks → TksAt w B q.tasks → RightPi p → RightPi q → Calls Tryz.prog 14 #[pipV p.name A p.tasks.length c, pipV q.name B q.tasks.length d] w fun e w' => e = .returned (.bool (sameP p q)) ∧ Below w.heap.size w w'
  sameNo : ∀ {w : World} {A : Option Addr} {c : Nat} {p : PiP}, VarL w → TksAt w A p.tasks → RightPi p → Calls Tryz.prog 14 #[pipV p.name A p.tasks.length c, .agg #[.string ⟨#[]⟩, .slice none 0 0]] w fun e w' => e = .returned (.bool false) ∧ Below w.heap.size w w'

theorem RightPi.small {p : PiP} (h : RightPi p) : p.tasks.length ≤ 1000000 ∧ ∀ t ∈ p.tasks, t.after.length ≤ 1000000 := by
  refine ⟨by have := h.few.2; omega, fun t ht => ?_⟩
  have h1 := (h.task t ht).aft
  have := few_below _ _ h1.1 h1.2
  have := h.few.2
  omega
theorem noTks (w : World) (A : Option Addr) : TksAt w A [] := fun h => absurd h (by simp)
/-- The document's Same and Right, of pipelines that may be. -/
theorem refsame_ok {w : World} {A B : Option Addr} {c d : Nat} {p q : PiP} (hA : TksAt w A p.tasks) (hB : TksAt w B q.tasks) (hp : RightPi p) (hq : RightPi q) : Calls Tryz.prog 11 #[pipV p.name A p.tasks.length c, pipV q.name B q.tasks.length d] w fun e w' => e = .returned (.bool (sameP p q)) ∧ Below w.heap.size w w' :=
  refsame_is hA hB hp.small.1 hp.small.2 hq.small.2
theorem refsame_no {w : World} {A B : Option Addr} {c d : Nat} : Calls Tryz.prog 11 #[pipV ⟨#[]⟩ A 0 c, .agg #[.string ⟨#[]⟩, .slice B (0 : Nat) d]] w fun e w' => e = .returned (.bool true) ∧ Below w.heap.size w w' :=
  refsame_is (n := ⟨#[]⟩) (m := ⟨#[]⟩) (ts := []) (us := []) (noTks w A) (noTks w B) (by simp) (by simp) (by simp)

section
variable {w : World}
set_option maxHeartbeats 2000000 in
set_option maxRecDepth 100000 in
theorem parses_true (C : ManOk) (HAW : ∀ w : World, VarL w → Calls Tryz.prog 7 #[] w fun e w' => e = .returned (.bool true) ∧ Below w.heap.size w w') (s : ByteArray) (hV : VarL w) :
    Calls Tryz.prog 3 #[.string s] w fun e w' => e = .returned (.bool true) ∧ Below w.heap.size w w' := by
  have HV := Lib.hid hV
  have HW := Lib.hid HAW
  clear hV HAW
  go_enter Tryz.func3, Tryz.ntmps3
  go_wp2_with fail
  refine (HW.out _ HV.out).mono ?_
  rintro e w1 ⟨rfl, hb1⟩
  have HV1 := Lib.hid (HV.out.later hb1)
  have HB1 := Lib.hid hb1
  clear hb1
  by_cases hs : 2000 < s.size
  · go_wp2_with fail
    refine (HW.out _ HV1.out).mono ?_
    rintro e w2 ⟨rfl, hb2⟩
    have HB2 := Lib.hid (below_step HB1.out hb2)
    clear hb2
    go_wp2_with fail
    go_ret
    exact ⟨rfl, HB2.out⟩
  · go_wp2_with fail
    refine (C.parse s HV1.out (by omega)).mono ?_
    rintro e w2 hp
    have hRF := fun w : World => refparse8_is s (by omega) w
    obtain ⟨r, hr⟩ : ∃ r, r = parseP s := ⟨_, rfl⟩
    rw [← hr] at hp hRF
    have HRF := Lib.hid hRF
    clear hRF
    have HR := Lib.hid hr
    clear hr
    rcases r with f | p
    · obtain ⟨hb2, A, c, F, rfl, hF⟩ := hp
      have hb2 := hb2.alloc hb2.size (.cells #[.string ⟨#[]⟩, .slice A (0 : Nat) c] 25)
      have HZ2 := Lib.hid (made_at w2 (.cells #[.string ⟨#[]⟩, .slice A (0 : Nat) c] 25))
      have hx : (f.e : Int) ≠ 0 := parse_err HR.out.symm
      have HB2 := Lib.hid (below_step HB1.out hb2)
      have HV2 := Lib.hid (HV1.out.later hb2)
      have HF2 := Lib.hid (hF.later ((Below.refl w2.heap.size w2).alloc (Nat.le_refl _) (.cells #[.string ⟨#[]⟩, .slice A (0 : Nat) c] 25)))
      have hn : ((f.e : Int) != 0) = true := by rw [bne_iff_ne]; exact hx
      clear hb2 hF hx
      unfold fltV
      go_wp2_with fail
      refine (HRF.out _).mono ?_
      rintro e w3 ⟨hb3, rfl⟩
      have hb3 := hb3.alloc hb3.size (.cells #[.string ⟨#[]⟩, .slice none 0 0] 25)
      have HB3 := Lib.hid (below_step HB2.out hb3)
      have HV3 := Lib.hid (HV2.out.later hb3)
      have HF3 := Lib.hid (HF2.out.later hb3)
      have HZ3 := Lib.hid (later_at hb3 HZ2.out)
      clear hb3
      have HWR := Lib.hid (wrong_is C.at_ HV3.out HF3.out f.e f.p)
      rw [show (((f.e : Int) == (f.e : Int)) && ((f.p : Int) == (f.p : Int))) = true by simp] at HWR
      unfold fltV at HWR
      go_wp2_with fail
      refine HWR.out.mono ?_
      rintro e w4 ⟨rfl, hb4⟩
      have HB4 := Lib.hid (below_step HB3.out hb4)
      have z := later_at hb4 HZ3.out
      have z0 := cellH z 0
      have z1 := cellH z 1
      simp at z0 z1
      clear hb4 z
      go_wp2_with fail
      refine refsame_no.mono ?_
      rintro e w5 ⟨rfl, hb5⟩
      have HB5 := Lib.hid (below_step HB4.out hb5)
      clear hb5
      go_wp2_with fail
      go_ret
      exact ⟨rfl, HB5.out⟩
    · obtain ⟨hb2, A, c, rfl, hA⟩ := hp
      have hp := parse_right HR.out.symm
      have hb2 := hb2.alloc hb2.size (.cells #[.string p.name, .slice A p.tasks.length c] 25)
      have HZ2 := Lib.hid (made_at w2 (.cells #[.string p.name, .slice A p.tasks.length c] 25))
      have HB2 := Lib.hid (below_step HB1.out hb2)
      have HA2 := Lib.hid (hA.later ((Below.refl w2.heap.size w2).alloc (Nat.le_refl _) (.cells #[.string p.name, .slice A p.tasks.length c] 25)))
      clear hb2 hA
      unfold pipV
      go_wp2_with fail
      refine (HRF.out _).mono ?_
      rintro e w3 ⟨hb3, A2, c2, rfl, hA3⟩
      have b4 := (Below.refl w3.heap.size w3).alloc (Nat.le_refl _) (.cells #[.string p.name, .slice A2 p.tasks.length c2] 25)
      have hb3 := below_step hb3 b4
      have HB3 := Lib.hid (below_step HB2.out hb3)
      have HA3 := Lib.hid (HA2.out.later hb3)
      have HA4 := Lib.hid (hA3.later b4)
      have HZ3 := Lib.hid (later_at hb3 HZ2.out)
      have HZ4 := Lib.hid (made_at w3 (.cells #[.string p.name, .slice A2 p.tasks.length c2] 25))
      have HSM := Lib.hid (refsame_ok (c := c) (d := c2) HA3.out HA4.out hp hp)
      rw [show sameP p p = true from sameP_iff.2 rfl] at HSM
      unfold pipV at HSM
      have z0 := cellH HZ3.out 0
      have z1 := cellH HZ3.out 1
      have z2 := cellH HZ4.out 0
      have z3 := cellH HZ4.out 1
      simp at z0 z1 z2 z3
      clear hb3 hA3 b4
      go_wp2_with fail
      refine HSM.out.mono ?_
      rintro e w4 ⟨rfl, hb4⟩
      have HB4 := Lib.hid (below_step HB3.out hb4)
      have HRG := Lib.hid (refrightp_is (c := c) (HA3.out.later hb4) hp)
      have z := later_at hb4 HZ3.out
      clear z0 z1 z2 z3
      have z0 := cellH z 0
      have z1 := cellH z 1
      simp at z0 z1
      clear hb4 z
      go_wp2_with fail
      refine HRG.out.mono ?_
      rintro e w5 ⟨rfl, hb5⟩
      have HB5 := Lib.hid (below_step HB4.out hb5)
      clear hb5
      go_wp2_with fail
      go_ret
      exact ⟨rfl, HB5.out⟩
end
end Go.Proofs.YtcfnmjhelhdobaaGreatDoor
