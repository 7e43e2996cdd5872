/-
  errors.Is of an api.Fault, held against an api.Errno. No conditions but how the Fault lies. errors.As of an api.Fault, held against the place of a *api.Fault; of nil. Conditions: the library's variable errors.errorType holds what its initialiser lays; the place is there. What the law asks of the program's lexer, in one bundle; Wrong of a Fault. Conditions: what the library's variable errors.errorType holds.
-/
import Derived.Test.YtcfnmjhelhdobaaGreatDoorProg
import Derived.WalkKit
import Derived.LaidEql
import Derived.Stop.Asserts
import Derived.RowKitTokens
import Derived.Lib.IfaceEq
import Derived.Below
import Derived.Lib.Hide
import Derived.Outline
import Derived.Test.YtcfnmjhelhdobaaGreatDoorLexC
import Derived.Test.YtcfnmjhelhdobaaGreatDoorCodT
namespace Go.Proofs.YtcfnmjhelhdobaaGreatDoor
open Go.RowKit Go.Extern.Stop Go.Stop Go.Extern

theorem no_typeOf (v : Value) (w : World) : (Extern.ReflectliteType.typeOf #[.iface 37 v]).run Tryz.prog w = .ok (.iface 134 (.agg #[typeHandle Tryz.prog 37])) w := by kernel_rfl
def cmpX : Array Value → Sem Value := Extern.ReflectliteType.method fun t => do Extern.Rtype.noPackHeld "Comparable" t; pure (.bool (← typeInfo t).comparable)
theorem no_comparable (w : World) : (cmpX #[.agg #[typeHandle Tryz.prog 37]]).run Tryz.prog w = .ok (.bool true) w := by kernel_rfl
theorem no_methodComparable (v : Value) (w : World) : (Go.method 343 134 v "Comparable").run Tryz.prog w = .ok (145, v) w := by kernel_rfl
theorem no_isF (v : Value) (xT : TypeId) (w : World) : (Instr.typeAssert (.iface 98 v) xT 136 true).run Tryz.prog w = .ok (.tuple #[.nilIface, .bool false]) w := run_typeAssert_lacksB Tryz.underlying136 (by kernel_rfl) (by kernel_rfl) v xT w
theorem no_isE (v : Value) (xT : TypeId) (w : World) : (Instr.typeAssert (.iface 37 v) xT 136 true).run Tryz.prog w = .ok (.tuple #[.nilIface, .bool false]) w := run_typeAssert_lacksB Tryz.underlying136 (by kernel_rfl) (by kernel_rfl) v xT w
theorem no_unwrapE (v : Value) (xT : TypeId) (w : World) : (Instr.typeAssert (.iface 37 v) xT 139 true).run Tryz.prog w = .ok (.tuple #[.nilIface, .bool false]) w := run_typeAssert_lacksB Tryz.underlying139 (by kernel_rfl) (by kernel_rfl) v xT w
theorem no_unwrapsE (v : Value) (xT : TypeId) (w : World) : (Instr.typeAssert (.iface 37 v) xT 140 true).run Tryz.prog w = .ok (.tuple #[.nilIface, .bool false]) w := run_typeAssert_lacksB Tryz.underlying140 (by kernel_rfl) (by kernel_rfl) v xT w
theorem yes_unwrapF (v : Value) (xT : TypeId) (w : World) : (Instr.typeAssert (.iface 98 v) xT 139 true).run Tryz.prog w = .ok (.tuple #[.iface 98 v, .bool true]) w := run_typeAssert_hasB Tryz.underlying139 (by kernel_rfl) v xT w
theorem method_unwrapF (v : Value) (w : World) : (Go.method 343 98 v "Unwrap").run Tryz.prog w = .ok (141, v) w := by kernel_rfl
theorem errno_comp : (Tryz.prog.info? 37).map (·.comparable) = some true := by kernel_rfl

section
variable {F : Nat} {at_ e0 e : Int} {w : World}
/-- An api.Fault. -/
def FaultAt (w : World) (F : Nat) (at_ e0 : Int) : Prop := w.heap[F]? = some (.cells #[.int .i64 at_, .iface 37 (.int .i64 e0)] 102 (0, 0))
set_option maxHeartbeats 1000000 in
set_option maxRecDepth 100000 in
theorem unwrap_is (h : FaultAt w F at_ e0) : Calls Tryz.prog 141 #[.pointer (some ⟨F, 0, none⟩)] w fun r w' => r = .returned (.iface 37 (.int .i64 e0)) ∧ w = w' := by
  have z1 : w.cell? ⟨F, 1, none⟩ = some (.iface 37 (.int .i64 e0)) := by have h' : w.heap[F]? = _ := h; simp [World.cell?, h']
  clear h
  go_enter Tryz.func141, Tryz.ntmps141
  go_wp2_with fail
  go_ret
  exact ⟨rfl, rfl⟩
set_option maxHeartbeats 1000000 in
set_option maxRecDepth 100000 in
theorem is_in (h : FaultAt w F at_ e0) : Calls Tryz.prog 43 #[.iface 98 (.pointer (some ⟨F, 0, none⟩)), .iface 37 (.int .i64 e), .bool true] w fun r w' => r = .returned (.bool (e0 == e)) ∧ w = w' := by
  have nF := no_isF
  have nE := no_isE
  have uE := no_unwrapE
  have vE := no_unwrapsE
  have uF := yes_unwrapF
  have mU := method_unwrapF
  have heq := fun (W : World) (a b : Int) => Lib.run_eql_iface_int (P := Tryz.prog) W (k := .i64) a b Tryz.underlying27 errno_comp Tryz.underlying37
  have hty := fun (v : Value) (W : World) => run_eql_iface_types (P := Tryz.prog) 98 37 v (.int .i64 e) Tryz.underlying27 (by decide) W
  have HU := Lib.hid (unwrap_is h)
  clear h
  by_cases hee : e0 = e
  · subst hee
    go_enter Tryz.func43, Tryz.ntmps43
    go_wp2_with fail
    refine wp_loop_rounds 2 ?_
    rw [rounds_succ]
    go_wp2_with fail
    refine HU.out.mono ?_
    rintro r w1 ⟨rfl, rfl⟩
    go_wp2_with fail
    rw [rounds_succ]
    go_wp2_with fail
    go_ret
    exact ⟨by simp, rfl⟩
  · have hne : (e0 == e) = false := beq_eq_false_iff_ne.2 hee
    go_enter Tryz.func43, Tryz.ntmps43
    go_wp2_with fail
    refine wp_loop_rounds 2 ?_
    rw [rounds_succ]
    go_wp2_with fail
    refine HU.out.mono ?_
    rintro r w1 ⟨rfl, rfl⟩
    go_wp2_with fail
    rw [rounds_succ]
    go_wp2_with fail
    go_ret
    exact ⟨by rw [hne]; rfl, rfl⟩
set_option maxHeartbeats 1000000 in
set_option maxRecDepth 100000 in
theorem is_fault (h : FaultAt w F at_ e0) : Calls Tryz.prog 22 #[.iface 98 (.pointer (some ⟨F, 0, none⟩)), .iface 37 (.int .i64 e)] w fun r w' => r = .returned (.bool (e0 == e)) ∧ w = w' := by
  have h20 := @run_callFunc_extern Tryz.prog 42 _ Extern.ReflectliteType.typeOf Tryz.func42 (by kernel_rfl) (by kernel_rfl) (by kernel_rfl) (by kernel_rfl)
  have h57 := @run_callFunc_extern Tryz.prog 145 _ cmpX Tryz.func145 (by kernel_rfl) (by kernel_rfl) (by kernel_rfl) (by kernel_rfl)
  have tT := no_typeOf
  have cT := no_comparable
  have mR := no_methodComparable
  have HI := Lib.hid (is_in (e := e) h)
  clear h
  go_enter Tryz.func22, Tryz.ntmps22
  go_wp2_with fail
  refine HI.out.mono ?_
  rintro r w1 ⟨rfl, rfl⟩
  go_wp2_with fail
  go_ret
  exact ⟨rfl, rfl⟩
end
end Go.Proofs.YtcfnmjhelhdobaaGreatDoor

namespace Go.Proofs.YtcfnmjhelhdobaaGreatDoor
open Go.RowKit Go.Extern.Stop Go.Stop Go.Extern

theorem as_nil (t : Value) (w : World) :
    Calls Tryz.prog 45 #[.nilIface, t] w fun e w' => e = .returned (.bool false) ∧ w' = w := by
  go_enter Tryz.func45, Tryz.ntmps45
  go_wp2
  go_ret
  exact ⟨rfl, rfl⟩

theorem asF_valueOf27 (t : Addr) (w : World) : (ReflectliteValue.unpack (.iface 100 (.pointer (some t)))).run Tryz.prog w
    = .ok (.agg #[.pointer (some ⟨7, 100, none⟩), .pointer (some ⟨w.heap.size, 0, none⟩), .int .u64 150]) (w.alloc (.cells #[.pointer (some t)] 100)) := by kernel_rfl
theorem asF_type27 (a : Addr) (w : World) : (ReflectliteValue.methodAny (ReflectliteValue.valueError "reflectlite.Value.Type" 0) (fun t _ _ _ => ReflectliteType.toType t) #[.agg #[.pointer (some ⟨7, 100, none⟩), .pointer (some a), .int .u64 150]]).run Tryz.prog w
    = .ok (.iface 134 (.agg #[.pointer (some ⟨7, 100, none⟩)])) w := by kernel_rfl
theorem asF_methodKind (h : Value) (w : World) : (Go.method 343 134 (.agg #[h]) "Kind").run Tryz.prog w = .ok (136, h) w := by kernel_rfl
theorem asF_kind27 (w : World) : ((ReflectliteType.abiMethod fun t => (fun a : Nat => Value.int IntKind.u8 (a : Int)) <$> Rtype.kind t) #[.pointer (some ⟨7, 100, none⟩)]).run Tryz.prog w = .ok (.int .u8 22) w := by kernel_rfl
theorem asF_kind25 (w : World) : ((ReflectliteType.abiMethod fun t => (fun a : Nat => Value.int IntKind.u8 (a : Int)) <$> Rtype.kind t) #[.pointer (some ⟨7, 98, none⟩)]).run Tryz.prog w = .ok (.int .u8 22) w := by kernel_rfl

theorem rlm (z : Sem Value) (f : TypeId → Addr → Nat → Nat → Sem Value) (v : Value) :
    ReflectliteValue.method z f #[v] = (do match ← ReflectliteValue.parts v with | none => z | some (t, a, fl) => f t a fl (fl % 32)) := rfl
theorem asF_parts27 (a : Addr) (w : World) : (ReflectliteValue.parts (.agg #[.pointer (some ⟨7, 100, none⟩), .pointer (some a), .int .u64 150])).run Tryz.prog w = .ok (some (100, a, 150)) w := by kernel_rfl
theorem asF_isNil27 (a p : Addr) (W : World) (ha : W.cell? a = some (.pointer (some p))) :
    (ReflectliteValue.method (ReflectliteValue.valueError "reflectlite.Value.IsNil" 0) ReflectliteValue.isNil #[.agg #[.pointer (some ⟨7, 100, none⟩), .pointer (some a), .int .u64 150]]).run Tryz.prog W = .ok (.bool false) W := by
  rw [rlm]
  simp only [Sem.run_bind, asF_parts27, Result.andThen]
  simp [ReflectliteValue.isNil, loadVar, isAgg, underlying, Tryz.underlying100, ha, Result.andThen]

theorem asF_methodElem (h : Value) (w : World) : (Go.method 343 134 (.agg #[h]) "Elem").run Tryz.prog w = .ok (146, .agg #[h]) w := by kernel_rfl
theorem asF_methodImplements (h : Value) (w : World) : (Go.method 343 134 (.agg #[h]) "Implements").run Tryz.prog w = .ok (147, .agg #[h]) w := by kernel_rfl
theorem asF_methodAssignableTo (h : Value) (w : World) : (Go.method 343 134 (.agg #[h]) "AssignableTo").run Tryz.prog w = .ok (144, .agg #[h]) w := by kernel_rfl
theorem asF_elem27 (w : World) : (ReflectliteType.method ReflectliteType.elem #[.agg #[.pointer (some ⟨7, 100, none⟩)]]).run Tryz.prog w = .ok (.iface 134 (.agg #[.pointer (some ⟨7, 98, none⟩)])) w := by kernel_rfl
theorem asF_implements25 (w : World) : (ReflectliteType.relation "Implements" ReflectliteType.implements_ #[.agg #[.pointer (some ⟨7, 98, none⟩)], .iface 134 (.agg #[.pointer (some ⟨7, 27, none⟩)])]).run Tryz.prog w = .ok (.bool true) w := by kernel_rfl
theorem asF_typeOf25 (v : Value) (w : World) : (ReflectliteType.typeOf #[.iface 98 v]).run Tryz.prog w = .ok (.iface 134 (.agg #[.pointer (some ⟨7, 98, none⟩)])) w := by kernel_rfl
theorem asF_assignable25 (w : World) : (ReflectliteType.relation "AssignableTo" ReflectliteType.assignableTo #[.agg #[.pointer (some ⟨7, 98, none⟩)], .iface 134 (.agg #[.pointer (some ⟨7, 98, none⟩)])]).run Tryz.prog w = .ok (.bool true) w := by kernel_rfl
theorem asF_valueOf25 (e : Addr) (w : World) : (ReflectliteValue.unpack (.iface 98 (.pointer (some e)))).run Tryz.prog w
    = .ok (.agg #[.pointer (some ⟨7, 98, none⟩), .pointer (some ⟨w.heap.size, 0, none⟩), .int .u64 150]) (w.alloc (.cells #[.pointer (some e)] 98)) := by kernel_rfl

theorem asF_elemOf27 (w : World) : (Rtype.elem? 100).run Tryz.prog w = .ok (some 98) w := by kernel_rfl
theorem asF_mk25 (p : Addr) (w : World) : (ReflectliteValue.mk 98 p ReflectliteValue.flagAddr).run Tryz.prog w = .ok (.agg #[.pointer (some ⟨7, 98, none⟩), .pointer (some p), .int .u64 406]) w := by kernel_rfl
theorem asF_elemV27 (a p : Addr) (W : World) (ha : W.cell? a = some (.pointer (some p))) :
    (ReflectliteValue.method (ReflectliteValue.valueError "reflectlite.Value.Elem" 0) ReflectliteValue.elem #[.agg #[.pointer (some ⟨7, 100, none⟩), .pointer (some a), .int .u64 150]]).run Tryz.prog W
      = .ok (.agg #[.pointer (some ⟨7, 98, none⟩), .pointer (some p), .int .u64 406]) W := by
  rw [rlm]
  simp only [Sem.run_bind, asF_parts27, Result.andThen]
  simp [ReflectliteValue.elem, loadVar, isAgg, underlying, Tryz.underlying100, ha, Result.andThen, asF_elemOf27, asF_mk25]
theorem rls (v x : Value) : ReflectliteValue.set #[v, x] = (do
    let (some (dst, a, fl), some (src, b, _)) := (← ReflectliteValue.parts v, ← ReflectliteValue.parts x)
      | unsupported (.noEntry "extern/(internal/reflectlite.Value).Set.zeroValue")
    if fl / ReflectliteValue.flagAddr % 2 == 0 then unsupported (.noEntry "extern/(internal/reflectlite.Value).Set.unaddressable")
    let val ← loadVar src b
    if ← Rtype.directlyAssignable dst src then storeVar dst a val
    else if ← Rtype.implements dst src then
      if (← Rtype.kind src) == 20 then
        match val with
        | .nilIface => unsupported (.noEntry "extern/reflectlite: a nil value of one interface type handed on as a value of another")
        | _ => storeVar dst a val
      else storeVar dst a (.iface src val)
    else panicString ("reflectlite.Set: value of type " ++ (← Rtype.spelt src) ++ " is not assignable to type " ++ (← Rtype.spelt dst))
    pure (.tuple #[])) := rfl
theorem asF_parts25a (a : Addr) (w : World) : (ReflectliteValue.parts (.agg #[.pointer (some ⟨7, 98, none⟩), .pointer (some a), .int .u64 406])).run Tryz.prog w = .ok (some (98, a, 406)) w := by kernel_rfl
theorem asF_parts25 (a : Addr) (w : World) : (ReflectliteValue.parts (.agg #[.pointer (some ⟨7, 98, none⟩), .pointer (some a), .int .u64 150])).run Tryz.prog w = .ok (some (98, a, 150)) w := by kernel_rfl
theorem asF_direct25 (w : World) : (Rtype.directlyAssignable 98 98).run Tryz.prog w = .ok true w := by kernel_rfl
theorem asF_size25 (w : World) : (sizeOf 98).run Tryz.prog w = .ok 1 w := by kernel_rfl
theorem asF_set25 (ta b e : Addr) (old : Value) (W : World) (hb : W.cell? b = some (.pointer (some e))) (ht : W.cell? ta = some old) (hf : W.frozen? ta = false) :
    (ReflectliteValue.set #[.agg #[.pointer (some ⟨7, 98, none⟩), .pointer (some ta), .int .u64 406], .agg #[.pointer (some ⟨7, 98, none⟩), .pointer (some b), .int .u64 150]]).run Tryz.prog W
      = .ok (.tuple #[]) (W.setCell ta (.pointer (some e))) := by
  rw [rls]
  simp only [Sem.run_bind, asF_parts25a, asF_parts25, Result.andThen]
  simp [ReflectliteValue.flagAddr, loadVar, isAgg, underlying, Tryz.underlying98, hb, Result.andThen, asF_direct25, storeVar, Value.cells, storeCells, Addr.add]
  rw [run_store Tryz.prog W ta _ _ (by rfl)]
  simp [ht, hf]

set_option maxHeartbeats 4000000 in
theorem as_hit (e t : Addr) (old : Value) (w : World) (hg : w.cell? ⟨0, 0, none⟩ = some (.iface 134 (.agg #[.pointer (some ⟨7, 27, none⟩)]))) (ht0 : w.cell? t = some old) (hf0 : w.frozen? t = false) :
    Calls Tryz.prog 45 #[.iface 98 (.pointer (some e)), .iface 100 (.pointer (some t))] w fun ev w' => ev = .returned (.bool true) ∧ w' = ((((w.alloc (.cells #[.pointer (some t)] 100)).alloc (.cells #[.pointer (some ⟨7, 100, none⟩), .pointer (some ⟨w.heap.size, 0, none⟩), .int .u64 150] 146)).alloc (.cells #[.pointer (some ⟨7, 100, none⟩), .pointer (some ⟨w.heap.size, 0, none⟩), .int .u64 150] 146)).alloc (.cells #[.pointer (some e)] 98)).setCell t (.pointer (some e)) := by
  have h6 := @run_callFunc_extern Tryz.prog 66 _ (fun args => ReflectliteValue.unpack (args.getD 0 (.tuple #[]))) Tryz.func66 (by kernel_rfl) (by kernel_rfl) (by kernel_rfl) (by kernel_rfl)
  have h7 := @run_callFunc_extern Tryz.prog 67 _ (ReflectliteValue.methodAny (ReflectliteValue.valueError "reflectlite.Value.Type" 0) (fun t _ _ _ => ReflectliteType.toType t)) Tryz.func67 (by kernel_rfl) (by kernel_rfl) (by kernel_rfl) (by kernel_rfl)
  have h8 := @run_callFunc_extern Tryz.prog 68 _ (ReflectliteValue.method (ReflectliteValue.valueError "reflectlite.Value.IsNil" 0) ReflectliteValue.isNil) Tryz.func68 (by kernel_rfl) (by kernel_rfl) (by kernel_rfl) (by kernel_rfl)
  have h27 := @run_callFunc_extern Tryz.prog 136 _ (ReflectliteType.abiMethod fun t => do pure (.int .u8 (← Rtype.kind t))) Tryz.func136 (by kernel_rfl) (by kernel_rfl) (by kernel_rfl) (by kernel_rfl)
  have h37 := @run_callFunc_extern Tryz.prog 146 _ (ReflectliteType.method ReflectliteType.elem) Tryz.func146 (by kernel_rfl) (by kernel_rfl) (by kernel_rfl) (by kernel_rfl)
  have h38 := @run_callFunc_extern Tryz.prog 147 _ (ReflectliteType.relation "Implements" ReflectliteType.implements_) Tryz.func147 (by kernel_rfl) (by kernel_rfl) (by kernel_rfl) (by kernel_rfl)
  have h10 := @run_callFunc_extern Tryz.prog 42 _ ReflectliteType.typeOf Tryz.func42 (by kernel_rfl) (by kernel_rfl) (by kernel_rfl) (by kernel_rfl)
  have h35 := @run_callFunc_extern Tryz.prog 144 _ (ReflectliteType.relation "AssignableTo" ReflectliteType.assignableTo) Tryz.func144 (by kernel_rfl) (by kernel_rfl) (by kernel_rfl) (by kernel_rfl)
  have h11 := @run_callFunc_extern Tryz.prog 83 _ (ReflectliteValue.method (ReflectliteValue.valueError "reflectlite.Value.Elem" 0) ReflectliteValue.elem) Tryz.func83 (by kernel_rfl) (by kernel_rfl) (by kernel_rfl) (by kernel_rfl)
  have h12 := @run_callFunc_extern Tryz.prog 84 _ ReflectliteValue.set Tryz.func84 (by kernel_rfl) (by kernel_rfl) (by kernel_rfl) (by kernel_rfl)
  have tO := asF_typeOf25
  have mA := asF_methodAssignableTo
  have a25 := asF_assignable25
  have v25 := asF_valueOf25
  have f6 := asF_valueOf27
  have f7 := asF_type27
  have mK := asF_methodKind
  have mE := asF_methodElem
  have mI := asF_methodImplements
  have k27 := asF_kind27
  have k25 := asF_kind25
  have e27 := asF_elem27
  have i25 := asF_implements25
  have n8 := asF_isNil27 ⟨w.heap.size, 0, none⟩ t ((w.alloc (.cells #[.pointer (some t)] 100)).alloc (.cells #[.pointer (some ⟨7, 100, none⟩), .pointer (some ⟨w.heap.size, 0, none⟩), .int .u64 150] 146)) (by simp)
  have hlt : 0 < w.heap.size := by
    rcases Nat.eq_zero_or_pos w.heap.size with h0 | h
    · simp [World.cell?, h0] at hg
    · exact h
  have hg2 : ((w.alloc (.cells #[.pointer (some t)] 100)).alloc (.cells #[.pointer (some ⟨7, 100, none⟩), .pointer (some ⟨w.heap.size, 0, none⟩), .int .u64 150] 146)).cell? ⟨0, 0, none⟩ = some (.iface 134 (.agg #[.pointer (some ⟨7, 27, none⟩)])) := by
    rw [World.cell?_alloc_lt _ _ ⟨0, 0, none⟩ (by simp), World.cell?_alloc_lt _ _ ⟨0, 0, none⟩ hlt]; exact hg
  have htl : t.block < w.heap.size := by
    rcases Nat.lt_or_ge t.block w.heap.size with h | h
    · exact h
    · simp [World.cell?, Array.getElem?_eq_none h] at ht0
  have el := asF_elemV27 ⟨w.heap.size, 0, none⟩ t (((w.alloc (.cells #[.pointer (some t)] 100)).alloc (.cells #[.pointer (some ⟨7, 100, none⟩), .pointer (some ⟨w.heap.size, 0, none⟩), .int .u64 150] 146)).alloc (.cells #[.pointer (some ⟨7, 100, none⟩), .pointer (some ⟨w.heap.size, 0, none⟩), .int .u64 150] 146)) (by rw [World.cell?_alloc_lt _ _ ⟨w.heap.size, 0, none⟩ (by simp; omega)]; simp)
  have st := asF_set25 t ⟨w.heap.size + 1 + 1 + 1, 0, none⟩ e old ((((w.alloc (.cells #[.pointer (some t)] 100)).alloc (.cells #[.pointer (some ⟨7, 100, none⟩), .pointer (some ⟨w.heap.size, 0, none⟩), .int .u64 150] 146)).alloc (.cells #[.pointer (some ⟨7, 100, none⟩), .pointer (some ⟨w.heap.size, 0, none⟩), .int .u64 150] 146)).alloc (.cells #[.pointer (some e)] 98))
    (by rw [World.cell?_alloc_at _ _ _ _ (by simp)]; rfl)
    (by rw [World.cell?_alloc_lt _ _ t (by simp; omega), World.cell?_alloc_lt _ _ t (by simp; omega), World.cell?_alloc_lt _ _ t (by simp; omega), World.cell?_alloc_lt _ _ t htl]; exact ht0)
    (by rw [World.frozen?_alloc_old _ _ t (by simp; omega), World.frozen?_alloc_old _ _ t (by simp; omega), World.frozen?_alloc_old _ _ t (by simp; omega), World.frozen?_alloc_old _ _ t (Nat.ne_of_lt htl)]; exact hf0)
  go_enter Tryz.func45, Tryz.ntmps45
  go_wp2
  refine wp_loop_rounds 1 ?_
  rw [rounds_succ]
  go_wp2
  go_ret
  exact ⟨rfl, rfl⟩
end Go.Proofs.YtcfnmjhelhdobaaGreatDoor

namespace Go.Proofs.YtcfnmjhelhdobaaGreatDoor
open Go.RowKit Go.Extern.Stop Go.Stop Go.Extern

/-- What the library's variable holds. -/
def VarE (w : World) : Prop := w.cell? ⟨0, 0, none⟩ = some (.iface 134 (.agg #[.pointer (some ⟨7, 27, none⟩)]))
theorem VarE.later {w w' : World} (h : VarE w) (hb : Below w.heap.size w w') : VarE w' := cell_later hb h
theorem VarE.alloc {w : World} (h : VarE w) (o : Obj) : VarE (w.alloc o) := h.later ((Below.refl _ _).alloc (Nat.le_refl _) o)
/-- What the library's variables hold. -/
structure VarL (w : World) : Prop where
  e : VarE w
  v : VarsAt w
theorem VarL.later {w w' : World} (h : VarL w) (hb : Below w.heap.size w w') : VarL w' := ⟨h.e.later hb, h.v.later hb⟩
theorem VarL.alloc {w : World} (h : VarL w) (o : Obj) : VarL (w.alloc o) := h.later ((Below.refl _ _).alloc (Nat.le_refl _) o)
theorem FaultAt.later {w w' : World} {F : Nat} {a e : Int} (h : FaultAt w F a e) (hb : Below w.heap.size w w') : FaultAt w' F a e := later_at hb h
theorem FaultAt.low {w : World} {F : Nat} {a e : Int} (h : FaultAt w F a e) : F < w.heap.size := (Array.getElem?_eq_some_iff.1 h).1
/-- An api.Fault as an error. -/
def fltV (F : Nat) : Value := .iface 98 (.pointer (some ⟨F, 0, none⟩))

/-- What Lines answers. -/
def LnsOut (w : World) (r : LxR) (e : Ending) (w' : World) : Prop := Below w.heap.size w w' ∧ match r with
  | .bad x p => ∃ A c F, e = .returned (.tuple #[.slice A (0 : Nat) c, fltV F]) ∧ FaultAt w' F p x
  | .good L => ∃ A c, e = .returned (.tuple #[.slice A L.length c, .nilIface]) ∧ LnsAt w' A L ∧ L.length ≤ c
/-- An answer v, or an error x at p and the answer z. -/
def OneOut (w : World) (r : Option Value) (z : Value) (x p : Int) (e : Ending) (w' : World) : Prop := Below w.heap.size w w' ∧ match r with
  | none => ∃ F, e = .returned (.tuple #[z, fltV F]) ∧ FaultAt w' F p x
  | some v => e = .returned (.tuple #[v, .nilIface])
/-- The names' parts, or an error x at p. -/
def NmsOut (w : World) (r : List Wd ⊕ Int) (e : Ending) (w' : World) : Prop := Below w.heap.size w w' ∧ match r with
  | .inr p => ∃ A c F, e = .returned (.tuple #[.slice A (0 : Nat) c, fltV F]) ∧ FaultAt w' F p 15
  | .inl l => ∃ A c, e = .returned (.tuple #[.slice A l.length c, .nilIface]) ∧ WdsAt w' A l

/-- What is asked of the program's At. -/
def AtOk : Prop := ∀ {w : World} {F : Nat} {a e : Int}, VarL w → FaultAt w F a e → Calls Tryz.prog 23 #[fltV F] w fun x w' => x = .returned (.int .i64 a) ∧ Below w.heap.size w w'
/-- What the law asks of the program's lexer. -/
structure LexOk : Prop where
  at_ : AtOk
  nilA : ∀ {w : World}, VarL w → Calls Tryz.prog 23 #[.nilIface] w fun x w' => x = .returned (.int .i64 (-1)) ∧ Below w.heap.size w w'
  lines : ∀ {w : World} (s : ByteArray), VarL w → s.size ≤ 1000000 → Calls Tryz.prog 16 #[.string s] w (LnsOut w (lexP s))
  num7 : ∀ {w : World}, VarL w → Calls Tryz.prog 92 #[.agg #[.string ⟨#[55]⟩, .int .i64 3], .int .i64 0, .int .i64 9] w (OneOut w (some (.int .i64 7)) (.int .i64 0) 16 3)
  num07 : ∀ {w : World}, VarL w → Calls Tryz.prog 92 #[.agg #[.string ⟨#[48, 55]⟩, .int .i64 3], .int .i64 0, .int .i64 9] w (OneOut w none (.int .i64 0) 16 3)
  nms : ∀ {w : World}, VarL w → Calls Tryz.prog 97 #[.agg #[.string ⟨#[97, 44, 98, 99]⟩, .int .i64 2]] w (NmsOut w (.inl [⟨⟨#[97]⟩, 2⟩, ⟨⟨#[98, 99]⟩, 4⟩]))
  nmsBad : ∀ {w : World}, VarL w → Calls Tryz.prog 97 #[.agg #[.string ⟨#[97, 44, 44, 98]⟩, .int .i64 2]] w (NmsOut w (.inr 4))
  lab : ∀ {w : World}, VarL w → Calls Tryz.prog 93 #[.agg #[.string ⟨#[49, 58, 48, 48, 48, 102]⟩, .int .i64 0]] w (OneOut w (some (.agg #[.int .i64 1, .int .u16 15])) (.agg #[.int .i64 0, .int .u16 0]) 3 0)
  name : ∀ {w : World}, VarL w → Calls Tryz.prog 52 #[.agg #[.string ⟨#[65]⟩, .int .i64 8]] w (OneOut w none (.string ⟨#[]⟩) 15 8)

section
variable {w : World} {F : Nat} {a e0 : Int}
set_option maxHeartbeats 1000000 in
set_option maxRecDepth 100000 in
theorem wrong_is (C : AtOk) (hV : VarL w) (h : FaultAt w F a e0) (e p : Int) : Calls Tryz.prog 10 #[fltV F, .int .i64 e, .int .i64 p] w fun x w' => x = .returned (.bool (e0 == e && a == p)) ∧ Below w.heap.size w w' := by
  have HI := Lib.hid (is_fault (e := e) h)
  have HA := Lib.hid (C hV h)
  unfold fltV at HA ⊢
  clear h hV
  by_cases hee : e0 = e
  · have he : (e0 == e) = true := by rw [hee]; simp
    have HE := Lib.hid he
    rw [he] at HI
    clear he hee
    go_enter Tryz.func10, Tryz.ntmps10
    go_wp2_with fail
    refine HI.out.mono ?_
    rintro r w1 ⟨rfl, rfl⟩
    go_wp2_with fail
    refine HA.out.mono ?_
    rintro r w2 ⟨rfl, hb⟩
    go_wp2_with fail
    go_ret
    exact ⟨by rw [HE.out]; rfl, hb⟩
  · have he : (e0 == e) = false := beq_eq_false_iff_ne.2 hee
    have HE := Lib.hid he
    rw [he] at HI
    clear he hee
    go_enter Tryz.func10, Tryz.ntmps10
    go_wp2_with fail
    refine HI.out.mono ?_
    rintro r w1 ⟨rfl, rfl⟩
    go_wp2_with fail
    go_ret
    exact ⟨by rw [HE.out]; rfl, Below.refl _ _⟩
end
end Go.Proofs.YtcfnmjhelhdobaaGreatDoor
