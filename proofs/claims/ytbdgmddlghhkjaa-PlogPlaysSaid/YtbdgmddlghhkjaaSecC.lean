/-
  What the document's SameTexts and Lay (package lockageref04), and the laws' like, answer. No conditions but how the lists lie in memory.
-/
import Derived.Test.YtbdgmddlghhkjaaSecA
import Derived.BigRegion
namespace Go.Proofs.Ytbdgmddlghhkjaa
open Go.RowKit

/-- The texts L stand at A. -/
def TextsAt (w : World) (A : Option Addr) (L : List ByteArray) : Prop := 0 < L.length → ∃ ad, A = some ad ∧ ∀ i s, L[i]? = some s → w.cell? (ad.add i) = some (.string s)

theorem ba_beq (s t : ByteArray) : (s.toList == t.toList) = decide (s = t) := by
  have e : ∀ x : ByteArray, x.toList = x.data.toList := fun x => Go.ByteArray.toList_eq x
  rw [Bool.eq_iff_iff]
  simp only [beq_iff_eq, decide_eq_true_eq, e]
  constructor
  · intro h
    exact ByteArray.ext (Array.toList_inj.1 h)
  · intro h
    rw [h]

set_option maxHeartbeats 1000000 in
set_option maxRecDepth 100000 in
theorem same_is {A B : Option Addr} {c1 c2 : Nat} {L K : List ByteArray} {w : World} (hA : TextsAt w A L) (hB : TextsAt w B K) (hl : L.length ≤ 1000000) :
    Calls Try.prog 26 #[.slice A L.length c1, .slice B K.length c2] w fun e w' => e = .returned (.bool (decide (L = K))) ∧ Below w.heap.size w w' := by
  by_cases hlen : L.length = K.length
  · have hlb : ((L.length : Int) != K.length) = false := by simp [hlen]
    have HA := Lib.hid hA
    have HB := Lib.hid hB
    clear hA hB
    go_enter Try.func26, Try.ntmps26
    go_wp2_with fail
    go_loopw [5] (fun j wr => ∃ k : Nat, k ≤ L.length ∧ j = .int .i64 k ∧ L.take k = K.take k ∧ Below w.heap.size w wr) (fun j _ => L.length - (intOf j).toNat)
    case atStart => exact ⟨0, Nat.zero_le _, rfl, rfl, Below.refl _ _⟩
    case round =>
      obtain ⟨k, hk, rfl, ht, hb⟩ := hrel
      have HBW := Lib.hid hb
      have HT := Lib.hid ht
      clear hb ht
      by_cases hlt : k < L.length
      · obtain ⟨s, hs⟩ : ∃ s, L[k]? = some s := ⟨_, List.getElem?_eq_getElem hlt⟩
        obtain ⟨t, ht⟩ : ∃ t, K[k]? = some t := ⟨_, List.getElem?_eq_getElem (by omega)⟩
        obtain ⟨ad, e, hc⟩ := HA.out (by omega)
        obtain ⟨ad2, e2, hc2⟩ := HB.out (by omega)
        subst e e2
        have x0 := hc k s hs
        have z0 := hc2 k t ht
        have x1 := (HBW.out.cell (World.block_lt_of_cell? _ _ x0)).trans x0
        have z1 := (HBW.out.cell (World.block_lt_of_cell? _ _ z0)).trans z0
        have hk2 : (k : Int) < K.length := by omega
        have HS := Lib.hid hs
        have HTT := Lib.hid ht
        clear hc hc2 x0 z0 hs ht
        by_cases hst : s = t
        · subst hst
          have hbq : (s.toList == s.toList) = true := by simp
          have HN := Lib.hid (show L.take (k + 1) = K.take (k + 1) by rw [List.take_add_one, List.take_add_one, HT.out, HS.out, HTT.out])
          go_wp2_with fail
          go_region
          all_goals go_wp2_with fail
          all_goals
            go_roundw
            case rel => exact ⟨k + 1, by omega, by go_num, HN.out, HBW.out.trans ((Below.refl _ _).drew)⟩
            case measure => simp [intOf]; omega
        · have hd := Lib.hid (show decide (L = K) = false from decide_eq_false (fun h => hst (by have := HS.out; rw [h, HTT.out] at this; exact (Option.some.inj this).symm)))
          have hbq : (s.toList == t.toList) = false := by rw [ba_beq]; exact decide_eq_false hst
          go_wp2_with fail
          go_region
          all_goals go_wp2_with fail
          all_goals
            go_ret
            exact ⟨ret_bool hd.out.symm, HBW.out.trans ((Below.refl _ _).drew)⟩
      · obtain rfl : k = L.length := by omega
        have hd := Lib.hid (show decide (L = K) = true from decide_eq_true (by have := HT.out; rw [List.take_length, hlen, List.take_length] at this; exact this))
        go_wp2_with fail
        go_ret
        exact ⟨ret_bool hd.out.symm, HBW.out⟩
  · have hd : decide (L = K) = false := decide_eq_false (fun h => hlen (by rw [h]))
    have hlb : ((L.length : Int) != K.length) = true := by simp; omega
    clear hA hB
    go_enter Try.func26, Try.ntmps26
    go_wp2_with fail
    go_ret
    exact ⟨ret_bool hd.symm, Below.refl _ _⟩
end Go.Proofs.Ytbdgmddlghhkjaa
