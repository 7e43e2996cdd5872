/-
  Plain words: the library's numeral is this text's own; what it reads of a numeral; what stands ahead of the first comma. No program is named here. errors.Is of an api.Fault, held against an api.Errno. No conditions but how the Fault lies.
-/
import Derived.Test.YtfjaibaidpbppaaGreatDoorCodR
import Derived.Lib.ItoaNum
import Derived.Lib.AtoiAllCases
import Derived.Lib.IndexLaws
import Derived.Test.YtfjaibaidpbppaaGreatDoorProg
import Derived.WalkKit
import Derived.LaidEql
import Derived.Stop.Asserts
import Derived.RowKitTokens
import Derived.Lib.IfaceEq
import Derived.Below
import Derived.Lib.Hide
import Derived.Outline
namespace Go.Proofs.YtfjaibaidpbppaaGreatDoor

theorem dec_dig (u : Nat) : Lib.decDigits u = digN u := by
  induction u using Nat.strongRecOn with
  | ind u ih =>
    rw [Lib.decDigits]
    by_cases h : u < 10
    · rw [dif_pos h, digN_low h]
    · rw [dif_neg h, digN_more h, ih (u / 10) (by omega)]
theorem itoa_head (n : Int) : Lib.itoa n = headT n := by
  unfold Lib.itoa headT
  by_cases h : n < 0
  · rw [if_pos h, if_pos h, dec_dig]; rfl
  · rw [if_neg h, if_neg h, dec_dig, show n.toNat = n.natAbs by omega]; rfl

theorem pu_append (r : List UInt8) : ∀ (l : List UInt8) (acc a : Nat), Lib.parseUint10 acc l = .ok a → Lib.parseUint10 acc (l ++ r) = Lib.parseUint10 a r
  | [], acc, a, h => by
    simp only [Lib.parseUint10] at h
    injection h with h
    subst h
    rfl
  | c :: l, acc, a, h => by
    simp only [Lib.parseUint10, List.cons_append] at h ⊢
    split at h
    · rename_i h1
      rw [if_pos h1]
      split at h
      · cases h
      · rename_i h2
        rw [if_neg h2]
        split at h
        · cases h
        · rename_i h3
          rw [if_neg h3]
          exact pu_append r l _ a h
    · cases h
theorem pu_dig (n : Nat) (h : n < 18446744073709551616) : Lib.parseUint10 0 (digN n) = .ok n := by
  induction n using Nat.strongRecOn with
  | ind n ih =>
    by_cases hl : n < 10
    · rw [digN_low hl]
      simp only [Lib.parseUint10, dig_val hl]
      rw [if_pos ⟨by omega, by omega⟩, if_neg (by omega), if_neg (by omega)]
      congr 1
      omega
    · rw [digN_more hl, pu_append _ _ _ _ (ih (n / 10) (by omega) (by omega))]
      simp only [Lib.parseUint10, dig_val (show n % 10 < 10 by omega)]
      rw [if_pos ⟨by omega, by omega⟩, if_neg (by omega), if_neg (by omega)]
      congr 1
      omega
theorem mag_dig (n : Nat) (h : n < 18446744073709551616) : Lib.parseMag (digN n) = .ok n := by
  unfold Lib.parseMag
  rw [if_neg (fun e => by have := digN_pos n; rw [e] at this; exact absurd this (by decide)), pu_dig n h]
/-- A numeral is read as its number. -/
theorem atoi_head {n : Int} (h0 : -9223372036854775808 ≤ n) (h1 : n ≤ 9223372036854775807) : Lib.atoiAll (headT n) = .ok n := by
  unfold headT
  by_cases h : n < 0
  · rw [if_pos h]
    show Lib.atoiAll (45 :: digN n.natAbs) = _
    rw [Lib.atoiAll_minus, mag_dig _ (by omega)]
    simp only [Lib.signed]
    rw [if_neg (by omega)]
    congr 1
    omega
  · rw [if_neg h]
    show Lib.atoiAll (digN n.natAbs) = _
    obtain ⟨c, l, e⟩ : ∃ c l, digN n.natAbs = c :: l := by
      cases hd : digN n.natAbs with
      | nil => have := digN_pos n.natAbs; rw [hd] at this; exact absurd this (by decide)
      | cons c l => exact ⟨c, l, rfl⟩
    have hc := digN_digit n.natAbs c (by rw [e]; exact List.mem_cons_self ..)
    rw [e, Lib.atoiAll_plain c l (by omega) (by omega), ← e, mag_dig _ (by omega)]
    simp only [Lib.signless]
    rw [if_neg (by omega)]
    congr 1
    omega

/-- No comma: no number's text is ahead. -/
theorem takes_uncut {S : List UInt8} {lo hi : Int} {r : Option (Int × List UInt8)} (h : Lib.indexByte S 44 = -1) (hr : Takes S lo hi r) : r = none := by
  rcases hr with ⟨m, x, _, _, a3, _, _, _⟩ | ⟨_, e⟩
  · exfalso
    have := Lib.indexByte_none h (headT m).length
    apply this
    rw [a3, numT_head, List.append_assoc, List.getElem?_append_right (Nat.le_refl _), Nat.sub_self]
    rfl
  · exact e
theorem cut_at_comma {S : List UInt8} {o : Nat} (h : Lib.indexByte S 44 = o) : o < S.length ∧ S = S.take o ++ 44 :: S.drop (o + 1) ∧ ∀ d ∈ S.take o, d ≠ 44 := by
  obtain ⟨h1, h2⟩ := Lib.indexByte_some h
  obtain ⟨hl, h3⟩ := List.getElem?_eq_some_iff.1 h1
  refine ⟨hl, ?_, ?_⟩
  · conv => lhs; rw [← List.take_append_drop o S]
    rw [List.drop_eq_getElem_cons hl, h3]
  · intro d hd e
    subst e
    obtain ⟨i, hi, he⟩ := List.mem_iff_getElem.1 hd
    rw [List.length_take] at hi
    rw [List.getElem_take] at he
    exact h2 i (by omega) (by rw [List.getElem?_eq_getElem (by omega), he])
theorem index_nat {S : List UInt8} (h : Lib.indexByte S 44 ≠ -1) : ∃ o : Nat, Lib.indexByte S 44 = o := by
  have := Lib.indexByte_ge S 44
  exact ⟨(Lib.indexByte S 44).toNat, by omega⟩
/-- What is taken, by what stands ahead of the comma. -/
theorem takes_num {S : List UInt8} {lo hi : Int} {r : Option (Int × List UInt8)} {o : Nat} (h : Lib.indexByte S 44 = o) (hr : Takes S lo hi r) {n : Int} (hn : Lib.atoiAll (S.take o) = .ok n) (he : S.take o = headT n) (h1 : lo ≤ n) (h2 : n ≤ hi) : r = some (n, S.drop (o + 1)) := by
  obtain ⟨_, hs, _⟩ := cut_at_comma h
  obtain ⟨b0, b1⟩ := Lib.atoiAll_bounds hn
  exact takes_one hr (.inl ⟨n, _, b0, b1, by rw [numT_head, List.append_assoc, ← he]; exact hs, h1, h2, rfl⟩)
theorem takes_not {S : List UInt8} {lo hi : Int} {r : Option (Int × List UInt8)} {o : Nat} (h : Lib.indexByte S 44 = o) (hr : Takes S lo hi r) (hno : ¬ ∃ n, Lib.atoiAll (S.take o) = .ok n ∧ S.take o = headT n ∧ lo ≤ n ∧ n ≤ hi) : r = none := by
  rcases hr with ⟨m, x, a1, a2, a3, a4, a5, _⟩ | ⟨_, e⟩
  · exfalso
    obtain ⟨_, hs, hd⟩ := cut_at_comma h
    rw [numT_head, List.append_assoc] at a3
    obtain ⟨h3, _⟩ := split_first hd (headT_none m) (hs.symm.trans a3)
    exact hno ⟨m, by rw [h3]; exact atoi_head a1 a2, h3, a4, a5⟩
  · exact e
end Go.Proofs.YtfjaibaidpbppaaGreatDoor

namespace Go.Proofs.YtfjaibaidpbppaaGreatDoor
open Go.RowKit Go.Extern.Stop Go.Stop Go.Extern

theorem no_typeOf (v : Value) (w : World) : (Extern.ReflectliteType.typeOf #[.iface 35 v]).run Tryz.prog w = .ok (.iface 188 (.agg #[typeHandle Tryz.prog 35])) w := by kernel_rfl
def cmpX : Array Value → Sem Value := Extern.ReflectliteType.method fun t => do Extern.Rtype.noPackHeld "Comparable" t; pure (.bool (← typeInfo t).comparable)
theorem no_comparable (w : World) : (cmpX #[.agg #[typeHandle Tryz.prog 35]]).run Tryz.prog w = .ok (.bool true) w := by kernel_rfl
theorem no_methodComparable (v : Value) (w : World) : (Go.method 357 188 v "Comparable").run Tryz.prog w = .ok (187, v) w := by kernel_rfl
theorem no_isF (v : Value) (xT : TypeId) (w : World) : (Instr.typeAssert (.iface 184 v) xT 190 true).run Tryz.prog w = .ok (.tuple #[.nilIface, .bool false]) w := run_typeAssert_lacksB Tryz.underlying190 (by kernel_rfl) (by kernel_rfl) v xT w
theorem no_isE (v : Value) (xT : TypeId) (w : World) : (Instr.typeAssert (.iface 35 v) xT 190 true).run Tryz.prog w = .ok (.tuple #[.nilIface, .bool false]) w := run_typeAssert_lacksB Tryz.underlying190 (by kernel_rfl) (by kernel_rfl) v xT w
theorem no_unwrapE (v : Value) (xT : TypeId) (w : World) : (Instr.typeAssert (.iface 35 v) xT 193 true).run Tryz.prog w = .ok (.tuple #[.nilIface, .bool false]) w := run_typeAssert_lacksB Tryz.underlying193 (by kernel_rfl) (by kernel_rfl) v xT w
theorem no_unwrapsE (v : Value) (xT : TypeId) (w : World) : (Instr.typeAssert (.iface 35 v) xT 195 true).run Tryz.prog w = .ok (.tuple #[.nilIface, .bool false]) w := run_typeAssert_lacksB Tryz.underlying195 (by kernel_rfl) (by kernel_rfl) v xT w
theorem yes_unwrapF (v : Value) (xT : TypeId) (w : World) : (Instr.typeAssert (.iface 184 v) xT 193 true).run Tryz.prog w = .ok (.tuple #[.iface 184 v, .bool true]) w := run_typeAssert_hasB Tryz.underlying193 (by kernel_rfl) v xT w
theorem method_unwrapF (v : Value) (w : World) : (Go.method 357 184 v "Unwrap").run Tryz.prog w = .ok (183, v) w := by kernel_rfl
theorem errno_comp : (Tryz.prog.info? 35).map (·.comparable) = some true := by kernel_rfl

section
variable {F : Nat} {at_ e0 e : Int} {w : World}
/-- An api.Fault. -/
def FaultAt (w : World) (F : Nat) (at_ e0 : Int) : Prop := w.heap[F]? = some (.cells #[.int .i64 at_, .iface 35 (.int .i64 e0)] 186 (0, 0))
set_option maxHeartbeats 1000000 in
set_option maxRecDepth 100000 in
theorem unwrap_is (h : FaultAt w F at_ e0) : Calls Tryz.prog 183 #[.pointer (some ⟨F, 0, none⟩)] w fun r w' => r = .returned (.iface 35 (.int .i64 e0)) ∧ w = w' := by
  have z1 : w.cell? ⟨F, 1, none⟩ = some (.iface 35 (.int .i64 e0)) := by have h' : w.heap[F]? = _ := h; simp [World.cell?, h']
  clear h
  go_enter Tryz.func183, Tryz.ntmps183
  go_wp2_with fail
  go_ret
  exact ⟨rfl, rfl⟩
set_option maxHeartbeats 1000000 in
set_option maxRecDepth 100000 in
theorem is_in (h : FaultAt w F at_ e0) : Calls Tryz.prog 120 #[.iface 184 (.pointer (some ⟨F, 0, none⟩)), .iface 35 (.int .i64 e), .bool true] w fun r w' => r = .returned (.bool (e0 == e)) ∧ w = w' := by
  have nF := no_isF
  have nE := no_isE
  have uE := no_unwrapE
  have vE := no_unwrapsE
  have uF := yes_unwrapF
  have mU := method_unwrapF
  have heq := fun (W : World) (a b : Int) => Lib.run_eql_iface_int (P := Tryz.prog) W (k := .i64) a b Tryz.underlying127 errno_comp Tryz.underlying35
  have hty := fun (v : Value) (W : World) => run_eql_iface_types (P := Tryz.prog) 184 35 v (.int .i64 e) Tryz.underlying127 (by decide) W
  have HU := Lib.hid (unwrap_is h)
  clear h
  by_cases hee : e0 = e
  · subst hee
    go_enter Tryz.func120, Tryz.ntmps120
    go_wp2_with fail
    refine wp_loop_rounds 2 ?_
    rw [rounds_succ]
    go_wp2_with fail
    refine HU.out.mono ?_
    rintro r w1 ⟨rfl, rfl⟩
    go_wp2_with fail
    rw [rounds_succ]
    go_wp2_with fail
    go_ret
    exact ⟨by simp, rfl⟩
  · have hne : (e0 == e) = false := beq_eq_false_iff_ne.2 hee
    go_enter Tryz.func120, Tryz.ntmps120
    go_wp2_with fail
    refine wp_loop_rounds 2 ?_
    rw [rounds_succ]
    go_wp2_with fail
    refine HU.out.mono ?_
    rintro r w1 ⟨rfl, rfl⟩
    go_wp2_with fail
    rw [rounds_succ]
    go_wp2_with fail
    go_ret
    exact ⟨by rw [hne]; rfl, rfl⟩
set_option maxHeartbeats 1000000 in
set_option maxRecDepth 100000 in
theorem is_fault (h : FaultAt w F at_ e0) : Calls Tryz.prog 100 #[.iface 184 (.pointer (some ⟨F, 0, none⟩)), .iface 35 (.int .i64 e)] w fun r w' => r = .returned (.bool (e0 == e)) ∧ w = w' := by
  have h20 := @run_callFunc_extern Tryz.prog 119 _ Extern.ReflectliteType.typeOf Tryz.func119 (by kernel_rfl) (by kernel_rfl) (by kernel_rfl) (by kernel_rfl)
  have h57 := @run_callFunc_extern Tryz.prog 187 _ cmpX Tryz.func187 (by kernel_rfl) (by kernel_rfl) (by kernel_rfl) (by kernel_rfl)
  have tT := no_typeOf
  have cT := no_comparable
  have mR := no_methodComparable
  have HI := Lib.hid (is_in (e := e) h)
  clear h
  go_enter Tryz.func100, Tryz.ntmps100
  go_wp2_with fail
  refine HI.out.mono ?_
  rintro r w1 ⟨rfl, rfl⟩
  go_wp2_with fail
  go_ret
  exact ⟨rfl, rfl⟩
end
end Go.Proofs.YtfjaibaidpbppaaGreatDoor
