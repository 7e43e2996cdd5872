/-
  What the document's Few (package lockageref08) answers of any pipeline: true only of one that is few. Condition: no more than maxLen tasks (of an argument that is so).
-/
import Derived.Test.YtcddbpdebklhnaaGreatDoorOrdP
namespace Go.Proofs.YtcddbpdebklhnaaGreatDoor
open Go.RowKit

abbrev FewOut (w : World) (n : ByteArray) (ts : List TkI) (e : Ending) (w' : World) : Prop := (∃ b, e = .returned (.bool b) ∧ (b = true → FewI n ts)) ∧ Below w.heap.size w w'
def FewK (ts : List TkI) (k : Nat) : Prop := ∀ (i : Nat) t, i < k → ts[i]? = some t → t.after.length ≤ 20 ∧ t.name.size ≤ 100
theorem FewK.more {ts : List TkI} {k : Nat} {t : TkI} (h : FewK ts k) (ht : ts[k]? = some t) (h1 : t.after.length ≤ 20) (h2 : t.name.size ≤ 100) : FewK ts (k + 1) := by
  intro i u hi hu
  rcases Nat.lt_or_ge i k with hik | hik
  · exact h i u hik hu
  · obtain rfl : i = k := by omega
    rw [ht] at hu
    obtain rfl : t = u := by injection hu
    exact ⟨h1, h2⟩
theorem FewK.all {ts : List TkI} {k : Nat} (h : FewK ts k) (hk : ts.length ≤ k) : ∀ t ∈ ts, t.after.length ≤ 20 ∧ t.name.size ≤ 100 := fun t ht => by
  obtain ⟨i, hi, rfl⟩ := List.getElem_of_mem ht
  exact h i _ (by omega) (List.getElem?_eq_getElem hi)
section
variable {w : World} {A : Option Addr} {c : Nat} {n : ByteArray} {ts : List TkI}
set_option maxHeartbeats 1000000 in
set_option maxRecDepth 100000 in
theorem reffew_is (hA : TksI w A ts) (hL : ts.length ≤ 9223372036854775807) :
    Calls Tryz.prog 6 #[.agg #[.string n, .slice A ts.length c]] w fun e w' => FewOut w n ts e w' := by
  have b1 := (Below.refl w.heap.size w).alloc (Nat.le_refl _) (.cells #[.string n, .slice A ts.length c] 24)
  have HB0 := Lib.hid b1
  have HX := Lib.hid (made_at w (.cells #[.string n, .slice A ts.length c] 24))
  have HA := Lib.hid (hA.later b1)
  clear b1 hA
  go_enter Tryz.func6, Tryz.ntmps6
  go_upto_region 1 with fail
  generalize hW0 : (w.alloc (.cells #[.string n, .slice A ts.length c] 24)) = W0 at *
  clear hW0
  have x0 := cellH HX.out 0
  have x1 := cellH HX.out 1
  simp at x0 x1
  go_wp2_with fail
  go_loopw [3] (fun i wr => ∃ k : Nat, i = .int .i64 k ∧ k ≤ ts.length ∧ Hid (FewK ts k) ∧ wr = W0) (fun i _ => ts.length - (intOf i).toNat)
  case atStart => exact ⟨0, rfl, Nat.zero_le _, Lib.hid (fun i t hi => absurd hi (Nat.not_lt_zero _)), rfl⟩
  case round =>
    obtain ⟨k, rfl, hk, HD, rfl⟩ := hrel
    by_cases hlt : k < ts.length
    · obtain ⟨t, ht⟩ : ∃ t, ts[k]? = some t := ⟨_, List.getElem?_eq_getElem hlt⟩
      have HGT := Lib.hid ht
      obtain ⟨pa, B1, c1, rfl, p0, pj, _, _⟩ := HA.out.at_ ht
      have p1 := pj 1 _ rfl
      clear pj ht
      have hk0 : (0 : Int) ≤ (k : Int) := by omega
      have hkl : (k : Int) < (ts.length : Int) := by omega
      by_cases q1 : (20 : Int) < (t.after.length : Int)
      · go_wp2_with fail
        go_ret
        exact ⟨⟨false, rfl, fun h => by cases h⟩, HB0.out⟩
      by_cases q2 : (100 : Int) < (t.name.size : Int)
      · go_wp2_with fail
        go_ret
        exact ⟨⟨false, rfl, fun h => by cases h⟩, HB0.out⟩
      have HQ := Lib.hid (show t.after.length ≤ 20 ∧ t.name.size ≤ 100 by omega)
      go_wp2_with fail
      go_roundw
      case rel => exact ⟨k + 1, by go_num, by omega, Lib.hid (HD.out.more HGT.out HQ.out.1 HQ.out.2), by trivial⟩
      case measure => simp [intOf]; omega
    · have hlk : ¬ (k : Int) < (ts.length : Int) := by omega
      have HDL := Lib.hid (HD.out.all (by omega))
      by_cases q1 : (ts.length : Int) ≤ 20
      · by_cases q2 : (n.size : Int) ≤ 100
        · have HQ := Lib.hid (show ts.length ≤ 20 ∧ n.size ≤ 100 by omega)
          go_wp2_with fail
          go_ret
          exact ⟨⟨true, by simp, fun _ => ⟨HDL.out, HQ.out⟩⟩, HB0.out⟩
        · go_wp2_with fail
          go_ret
          exact ⟨⟨false, by simp, fun h => by cases h⟩, HB0.out⟩
      · go_wp2_with fail
        go_ret
        exact ⟨⟨false, by simp, fun h => by cases h⟩, HB0.out⟩
end
end Go.Proofs.YtcddbpdebklhnaaGreatDoor
