/-
  errors.Is of an api.Fault, held against an api.Errno. No conditions but how the Fault lies.
-/
import Derived.Test.YtfekjopchlokbaaDoorProg
import Derived.WalkKit
import Derived.LaidEql
import Derived.Stop.Asserts
import Derived.RowKitTokens
import Derived.Lib.IfaceEq
import Derived.Below
import Derived.Lib.Hide
import Derived.Outline
namespace Go.Proofs.YtfekjopchlokbaaDoor
open Go.RowKit Go.Extern.Stop Go.Stop Go.Extern

theorem no_typeOf (v : Value) (w : World) : (Extern.ReflectliteType.typeOf #[.iface 51 v]).run Tryd.prog w = .ok (.iface 89 (.agg #[typeHandle Tryd.prog 51])) w := by kernel_rfl
def cmpX : Array Value → Sem Value := Extern.ReflectliteType.method fun t => do Extern.Rtype.noPackHeld "Comparable" t; pure (.bool (← typeInfo t).comparable)
theorem no_comparable (w : World) : (cmpX #[.agg #[typeHandle Tryd.prog 51]]).run Tryd.prog w = .ok (.bool true) w := by kernel_rfl
theorem no_methodComparable (v : Value) (w : World) : (Go.method 271 89 v "Comparable").run Tryd.prog w = .ok (89, v) w := by kernel_rfl
theorem no_isF (v : Value) (xT : TypeId) (w : World) : (Instr.typeAssert (.iface 63 v) xT 91 true).run Tryd.prog w = .ok (.tuple #[.nilIface, .bool false]) w := run_typeAssert_lacksB Tryd.underlying91 (by kernel_rfl) (by kernel_rfl) v xT w
theorem no_isE (v : Value) (xT : TypeId) (w : World) : (Instr.typeAssert (.iface 51 v) xT 91 true).run Tryd.prog w = .ok (.tuple #[.nilIface, .bool false]) w := run_typeAssert_lacksB Tryd.underlying91 (by kernel_rfl) (by kernel_rfl) v xT w
theorem no_unwrapE (v : Value) (xT : TypeId) (w : World) : (Instr.typeAssert (.iface 51 v) xT 94 true).run Tryd.prog w = .ok (.tuple #[.nilIface, .bool false]) w := run_typeAssert_lacksB Tryd.underlying94 (by kernel_rfl) (by kernel_rfl) v xT w
theorem no_unwrapsE (v : Value) (xT : TypeId) (w : World) : (Instr.typeAssert (.iface 51 v) xT 96 true).run Tryd.prog w = .ok (.tuple #[.nilIface, .bool false]) w := run_typeAssert_lacksB Tryd.underlying96 (by kernel_rfl) (by kernel_rfl) v xT w
theorem yes_unwrapF (v : Value) (xT : TypeId) (w : World) : (Instr.typeAssert (.iface 63 v) xT 94 true).run Tryd.prog w = .ok (.tuple #[.iface 63 v, .bool true]) w := run_typeAssert_hasB Tryd.underlying94 (by kernel_rfl) v xT w
theorem method_unwrapF (v : Value) (w : World) : (Go.method 271 63 v "Unwrap").run Tryd.prog w = .ok (83, v) w := by kernel_rfl
theorem errno_comp : (Tryd.prog.info? 51).map (·.comparable) = some true := by kernel_rfl

section
variable {F : Nat} {at_ e0 e : Int} {w : World}
/-- An api.Fault. -/
def FaultAt (w : World) (F : Nat) (at_ e0 : Int) : Prop := w.heap[F]? = some (.cells #[.int .i64 at_, .iface 51 (.int .i64 e0)] 67 (0, 0))
set_option maxHeartbeats 1000000 in
set_option maxRecDepth 100000 in
theorem unwrap_is (h : FaultAt w F at_ e0) : Calls Tryd.prog 83 #[.pointer (some ⟨F, 0, none⟩)] w fun r w' => r = .returned (.iface 51 (.int .i64 e0)) ∧ w = w' := by
  have z1 : w.cell? ⟨F, 1, none⟩ = some (.iface 51 (.int .i64 e0)) := by have h' : w.heap[F]? = _ := h; simp [World.cell?, h']
  clear h
  go_enter Tryd.func83, Tryd.ntmps83
  go_wp2_with fail
  go_ret
  exact ⟨rfl, rfl⟩
set_option maxHeartbeats 1000000 in
set_option maxRecDepth 100000 in
theorem is_in (h : FaultAt w F at_ e0) : Calls Tryd.prog 28 #[.iface 63 (.pointer (some ⟨F, 0, none⟩)), .iface 51 (.int .i64 e), .bool true] w fun r w' => r = .returned (.bool (e0 == e)) ∧ w = w' := by
  have nF := no_isF
  have nE := no_isE
  have uE := no_unwrapE
  have vE := no_unwrapsE
  have uF := yes_unwrapF
  have mU := method_unwrapF
  have heq := fun (W : World) (a b : Int) => Lib.run_eql_iface_int (P := Tryd.prog) W (k := .i64) a b Tryd.underlying25 errno_comp Tryd.underlying51
  have hty := fun (v : Value) (W : World) => run_eql_iface_types (P := Tryd.prog) 63 51 v (.int .i64 e) Tryd.underlying25 (by decide) W
  have HU := Lib.hid (unwrap_is h)
  clear h
  by_cases hee : e0 = e
  · subst hee
    go_enter Tryd.func28, Tryd.ntmps28
    go_wp2_with fail
    refine wp_loop_rounds 2 ?_
    rw [rounds_succ]
    go_wp2_with fail
    refine HU.out.mono ?_
    rintro r w1 ⟨rfl, rfl⟩
    go_wp2_with fail
    rw [rounds_succ]
    go_wp2_with fail
    go_ret
    exact ⟨by simp, rfl⟩
  · have hne : (e0 == e) = false := beq_eq_false_iff_ne.2 hee
    go_enter Tryd.func28, Tryd.ntmps28
    go_wp2_with fail
    refine wp_loop_rounds 2 ?_
    rw [rounds_succ]
    go_wp2_with fail
    refine HU.out.mono ?_
    rintro r w1 ⟨rfl, rfl⟩
    go_wp2_with fail
    rw [rounds_succ]
    go_wp2_with fail
    go_ret
    exact ⟨by rw [hne]; rfl, rfl⟩
set_option maxHeartbeats 1000000 in
set_option maxRecDepth 100000 in
theorem is_fault (h : FaultAt w F at_ e0) : Calls Tryd.prog 17 #[.iface 63 (.pointer (some ⟨F, 0, none⟩)), .iface 51 (.int .i64 e)] w fun r w' => r = .returned (.bool (e0 == e)) ∧ w = w' := by
  have h20 := @run_callFunc_extern Tryd.prog 27 _ Extern.ReflectliteType.typeOf Tryd.func27 (by kernel_rfl) (by kernel_rfl) (by kernel_rfl) (by kernel_rfl)
  have h57 := @run_callFunc_extern Tryd.prog 89 _ cmpX Tryd.func89 (by kernel_rfl) (by kernel_rfl) (by kernel_rfl) (by kernel_rfl)
  have tT := no_typeOf
  have cT := no_comparable
  have mR := no_methodComparable
  have HI := Lib.hid (is_in (e := e) h)
  clear h
  go_enter Tryd.func17, Tryd.ntmps17
  go_wp2_with fail
  refine HI.out.mono ?_
  rintro r w1 ⟨rfl, rfl⟩
  go_wp2_with fail
  go_ret
  exact ⟨rfl, rfl⟩
end
end Go.Proofs.YtfekjopchlokbaaDoor
