/-
  errors.Is of an api.Fault, held against an api.Errno. No conditions but how the Fault lies.
-/
import Derived.Test.YtpndjeccfdcjpaaProg
import Derived.WalkKit
import Derived.LaidEql
import Derived.Stop.Asserts
import Derived.RowKitTokens
import Derived.Lib.IfaceEq
import Derived.Below
import Derived.Lib.Hide
import Derived.Outline
namespace Go.Proofs.Ytpndjeccfdcjpaa
open Go.RowKit Go.Extern.Stop Go.Stop Go.Extern

theorem no_typeOf (v : Value) (w : World) : (Extern.ReflectliteType.typeOf #[.iface 64 v]).run Try.prog w = .ok (.iface 95 (.agg #[typeHandle Try.prog 64])) w := by kernel_rfl
def cmpX : Array Value → Sem Value := Extern.ReflectliteType.method fun t => do Extern.Rtype.noPackHeld "Comparable" t; pure (.bool (← typeInfo t).comparable)
theorem no_comparable (w : World) : (cmpX #[.agg #[typeHandle Try.prog 64]]).run Try.prog w = .ok (.bool true) w := by kernel_rfl
theorem no_methodComparable (v : Value) (w : World) : (Go.method 247 95 v "Comparable").run Try.prog w = .ok (84, v) w := by kernel_rfl
theorem no_isF (v : Value) (xT : TypeId) (w : World) : (Instr.typeAssert (.iface 90 v) xT 97 true).run Try.prog w = .ok (.tuple #[.nilIface, .bool false]) w := run_typeAssert_lacksB Try.underlying97 (by kernel_rfl) (by kernel_rfl) v xT w
theorem no_isE (v : Value) (xT : TypeId) (w : World) : (Instr.typeAssert (.iface 64 v) xT 97 true).run Try.prog w = .ok (.tuple #[.nilIface, .bool false]) w := run_typeAssert_lacksB Try.underlying97 (by kernel_rfl) (by kernel_rfl) v xT w
theorem no_unwrapE (v : Value) (xT : TypeId) (w : World) : (Instr.typeAssert (.iface 64 v) xT 100 true).run Try.prog w = .ok (.tuple #[.nilIface, .bool false]) w := run_typeAssert_lacksB Try.underlying100 (by kernel_rfl) (by kernel_rfl) v xT w
theorem no_unwrapsE (v : Value) (xT : TypeId) (w : World) : (Instr.typeAssert (.iface 64 v) xT 102 true).run Try.prog w = .ok (.tuple #[.nilIface, .bool false]) w := run_typeAssert_lacksB Try.underlying102 (by kernel_rfl) (by kernel_rfl) v xT w
theorem yes_unwrapF (v : Value) (xT : TypeId) (w : World) : (Instr.typeAssert (.iface 90 v) xT 100 true).run Try.prog w = .ok (.tuple #[.iface 90 v, .bool true]) w := run_typeAssert_hasB Try.underlying100 (by kernel_rfl) v xT w
theorem method_unwrapF (v : Value) (w : World) : (Go.method 247 90 v "Unwrap").run Try.prog w = .ok (80, v) w := by kernel_rfl
theorem errno_comp : (Try.prog.info? 64).map (·.comparable) = some true := by kernel_rfl

section
variable {F : Nat} {at_ e0 e : Int} {w : World}
/-- An api.Fault. -/
def FaultAt (w : World) (F : Nat) (at_ e0 : Int) : Prop := w.heap[F]? = some (.cells #[.int .i64 at_, .iface 64 (.int .i64 e0)] 92 (0, 0))
set_option maxHeartbeats 1000000 in
set_option maxRecDepth 100000 in
theorem unwrap_is (h : FaultAt w F at_ e0) : Calls Try.prog 80 #[.pointer (some ⟨F, 0, none⟩)] w fun r w' => r = .returned (.iface 64 (.int .i64 e0)) ∧ w = w' := by
  have z1 : w.cell? ⟨F, 1, none⟩ = some (.iface 64 (.int .i64 e0)) := by have h' : w.heap[F]? = _ := h; simp [World.cell?, h']
  clear h
  go_enter Try.func80, Try.ntmps80
  go_wp2_with fail
  go_ret
  exact ⟨rfl, rfl⟩
set_option maxHeartbeats 1000000 in
set_option maxRecDepth 100000 in
theorem is_in (h : FaultAt w F at_ e0) : Calls Try.prog 42 #[.iface 90 (.pointer (some ⟨F, 0, none⟩)), .iface 64 (.int .i64 e), .bool true] w fun r w' => r = .returned (.bool (e0 == e)) ∧ w = w' := by
  have nF := no_isF
  have nE := no_isE
  have uE := no_unwrapE
  have vE := no_unwrapsE
  have uF := yes_unwrapF
  have mU := method_unwrapF
  have heq := fun (W : World) (a b : Int) => Lib.run_eql_iface_int (P := Try.prog) W (k := .i64) a b Try.underlying58 errno_comp Try.underlying64
  have hty := fun (v : Value) (W : World) => run_eql_iface_types (P := Try.prog) 90 64 v (.int .i64 e) Try.underlying58 (by decide) W
  have HU := Lib.hid (unwrap_is h)
  clear h
  by_cases hee : e0 = e
  · subst hee
    go_enter Try.func42, Try.ntmps42
    go_wp2_with fail
    refine wp_loop_rounds 2 ?_
    rw [rounds_succ]
    go_wp2_with fail
    refine HU.out.mono ?_
    rintro r w1 ⟨rfl, rfl⟩
    go_wp2_with fail
    rw [rounds_succ]
    go_wp2_with fail
    go_ret
    exact ⟨by simp, rfl⟩
  · have hne : (e0 == e) = false := beq_eq_false_iff_ne.2 hee
    go_enter Try.func42, Try.ntmps42
    go_wp2_with fail
    refine wp_loop_rounds 2 ?_
    rw [rounds_succ]
    go_wp2_with fail
    refine HU.out.mono ?_
    rintro r w1 ⟨rfl, rfl⟩
    go_wp2_with fail
    rw [rounds_succ]
    go_wp2_with fail
    go_ret
    exact ⟨by rw [hne]; rfl, rfl⟩
set_option maxHeartbeats 1000000 in
set_option maxRecDepth 100000 in
theorem is_fault (h : FaultAt w F at_ e0) : Calls Try.prog 30 #[.iface 90 (.pointer (some ⟨F, 0, none⟩)), .iface 64 (.int .i64 e)] w fun r w' => r = .returned (.bool (e0 == e)) ∧ w = w' := by
  have h20 := @run_callFunc_extern Try.prog 41 _ Extern.ReflectliteType.typeOf Try.func41 (by kernel_rfl) (by kernel_rfl) (by kernel_rfl) (by kernel_rfl)
  have h57 := @run_callFunc_extern Try.prog 84 _ cmpX Try.func84 (by kernel_rfl) (by kernel_rfl) (by kernel_rfl) (by kernel_rfl)
  have tT := no_typeOf
  have cT := no_comparable
  have mR := no_methodComparable
  have HI := Lib.hid (is_in (e := e) h)
  clear h
  go_enter Try.func30, Try.ntmps30
  go_wp2_with fail
  refine HI.out.mono ?_
  rintro r w1 ⟨rfl, rfl⟩
  go_wp2_with fail
  go_ret
  exact ⟨rfl, rfl⟩
end
end Go.Proofs.Ytpndjeccfdcjpaa
