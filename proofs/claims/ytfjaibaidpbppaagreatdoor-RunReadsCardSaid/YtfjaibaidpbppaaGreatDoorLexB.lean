/-
  The program's Reader: Text and Label. Conditions: how the Reader lies, what the package-level variables hold, a text's length. The program's Reader: Label. Conditions: how the Reader lies, what the package-level variables hold, a text's length. errors.As of an api.Fault, held against the place of a *api.Fault; of nil. Conditions: the library's variable errors.errorType holds what its initialiser lays; the place is there.
-/
import Derived.Test.YtfjaibaidpbppaaGreatDoorCodU
import Derived.Test.YtfjaibaidpbppaaGreatDoorLexA
namespace Go.Proofs.YtfjaibaidpbppaaGreatDoor
open Go.RowKit
section
variable {w : World} {R : Nat} {s : ByteArray} {b : Bool}
set_option maxHeartbeats 2000000 in
set_option maxRecDepth 100000 in
theorem text_none (h : RdAt w R s b) (hV : VarsAt w) (most : Int) (r : Option (Int × List UInt8)) (hr : Takes (bl s) 0 most r) (hS : s.size ≤ 1000000000) (hb : iB b r = true) :
    Calls Tryz.prog 50 #[.pointer (some ⟨R, 0, none⟩), .int .i64 most] w fun e w' => e = .returned (.string .empty) ∧ RdAt w' R (iS s b r) true ∧ Only1 R w w' := by
  have HI := Lib.hid (int_is h hV 0 most r hr hS)
  rw [hb] at HI
  clear h hV hr hb
  go_enter Tryz.func50, Tryz.ntmps50
  go_wp2_with fail
  refine HI.out.mono ?_
  rintro e w1 ⟨rfl, h1, ho1⟩
  have H1 := Lib.hid h1
  have HO1 := Lib.hid ho1
  clear h1 ho1 HI
  go_wp2_with fail
  refine (ok_is H1.out).mono ?_
  rintro e w2 ⟨rfl, rfl⟩
  go_wp2_with fail
  go_ret
  exact ⟨rfl, H1.out, HO1.out⟩
set_option maxHeartbeats 2000000 in
set_option maxRecDepth 100000 in
theorem text_some (h : RdAt w R s false) (hV : VarsAt w) (most : Int) (n : Int) (x : List UInt8) (hr : Takes (bl s) 0 most (some (n, x))) (hS : s.size ≤ 1000000000) :
    Calls Tryz.prog 50 #[.pointer (some ⟨R, 0, none⟩), .int .i64 most] w fun e w' => e = .returned (.string (rtT (some (n, x)))) ∧ RdAt w' R (rtS s (some (n, x))) (rtB (some (n, x))) ∧ Only1 R w w' := by
  have HI := Lib.hid (int_is h hV 0 most _ hr hS)
  have h0 : 0 ≤ n := by
    rcases hr with ⟨m, y, _, _, _, a4, _, e⟩ | ⟨_, e⟩
    · obtain ⟨rfl, rfl⟩ := Prod.mk.inj (Option.some.inj e); exact a4
    · cases e
  have h1 : x.length ≤ 1000000000 := by
    have := takes_len hr
    omega
  have hsz : (ofL x).size = x.length := by rw [← bl_len, bl_ofL]
  have e1 : iS s false (some (n, x)) = ofL x := rfl
  have e2 : iV false (some (n, x)) = n := rfl
  have e3 : iB false (some (n, x)) = false := rfl
  rw [e1, e2, e3] at HI
  clear h hV hr e1 e2 e3
  obtain ⟨X, hX⟩ : ∃ X : ByteArray, X = ofL x := ⟨_, rfl⟩
  rw [← hX] at HI hsz
  have HX := Lib.hid hX
  clear hX
  go_enter Tryz.func50, Tryz.ntmps50
  go_wp2_with fail
  refine HI.out.mono ?_
  rintro e w1 ⟨rfl, g1, ho1⟩
  have H1 := Lib.hid g1
  have HO1 := Lib.hid ho1
  clear g1 ho1 HI
  go_wp2_with fail
  refine (ok_is H1.out).mono ?_
  rintro e w2 ⟨rfl, rfl⟩
  have zf := freeH H1.out
  have z1 := cellH H1.out 1
  have z0 := cellH H1.out 0
  simp at z1 z0
  by_cases hgt : (X.size : Int) < n
  · have hgt2 : (x.length : Int) < n := by omega
    go_wp2_with fail
    go_ret
    refine ⟨by simp only [rtT, if_pos hgt2]; rfl, ?_, HO1.out.trans (Only1.set _)⟩
    simp only [rtS, rtB, if_pos hgt2, decide_eq_true hgt2]
    rw [← HX.out]
    exact set_wrong H1.out
  · have hgt2 : ¬ (x.length : Int) < n := by omega
    obtain ⟨m, rfl⟩ : ∃ m : Nat, n = m := ⟨n.toNat, by omega⟩
    have hm : m ≤ X.size := by omega
    have E1 := Lib.hid (show rtT (some ((m : Int), x)) = X.extract 0 m by
      apply bl_inj
      simp only [rtT, if_neg hgt2, Int.toNat_natCast]
      rw [bl_extract, HX.out, bl_ofL, bl_ofL, List.drop_zero])
    have E2 := Lib.hid (show rtS s (some ((m : Int), x)) = X.extract m x.length by
      apply bl_inj
      simp only [rtS, if_neg hgt2, Int.toNat_natCast]
      rw [bl_extract, HX.out, bl_ofL, bl_ofL, List.take_of_length_le (Nat.le_refl _)])
    have E3 := Lib.hid (show rtB (some ((m : Int), x)) = false from decide_eq_false hgt2)
    have hxe : x.length = X.size := hsz.symm
    rw [hxe] at E2
    clear hsz HX hxe
    go_wp2_with fail
    have hp := set_left H1.out (X.extract m X.size)
    refine (clone_is _ (X.extract 0 m) (by rw [ByteArray.size_extract]; omega)).mono ?_
    rintro e w3 ⟨rfl, hb3⟩
    have HP := Lib.hid (hp.below hb3)
    have HO3 := Lib.hid (Only1.of_below (R := R) hb3)
    clear hp hb3
    go_wp2_with fail
    go_ret
    exact ⟨by rw [E1.out]; rfl, by rw [E2.out, E3.out]; exact HP.out, (HO1.out.trans (Only1.set _)).trans HO3.out⟩
theorem text_is (h : RdAt w R s b) (hV : VarsAt w) (most : Int) (r : Option (Int × List UInt8)) (hr : Takes (bl s) 0 most r) (hS : s.size ≤ 1000000000) :
    Calls Tryz.prog 50 #[.pointer (some ⟨R, 0, none⟩), .int .i64 most] w fun e w' => e = .returned (.string (tV b r)) ∧ RdAt w' R (tS s b r) (tB b r) ∧ Only1 R w w' := by
  cases b with
  | true => exact text_none h hV most r hr hS rfl
  | false =>
    cases r with
    | none => exact text_none h hV most none hr hS rfl
    | some q => exact text_some h hV most q.1 q.2 hr hS
end
end Go.Proofs.YtfjaibaidpbppaaGreatDoor

namespace Go.Proofs.YtfjaibaidpbppaaGreatDoor
open Go.RowKit
theorem Only1.setNew {R B i : Nat} {w w' : World} (h : Only1 R w w') (hB : w.heap.size ≤ B) (v : Value) : Only1 R w (w'.setCell ⟨B, i, none⟩ v) := by
  have hs := Only1.set (R := B) (i := i) (w := w') v
  exact ⟨hs.os.trans h.os, hs.tape.trans h.tape, hs.output.trans h.output, Nat.le_trans h.size hs.size, fun j hj hn => (hs.block j (Nat.lt_of_lt_of_le hj h.size) (by omega)).trans (h.block j hj hn)⟩
theorem var_cells {w : World} {n : String} {g : Nat} {cs : Array Value} (hg : Tryz.prog.globalNamed n = some g) (h : w.var? Tryz.prog n = some cs) {ds : Array Value} {t : TypeId} {m : Nat × Nat} (hd : w.heap[g]? = some (.cells ds t m)) : ds = cs := by
  unfold World.var? at h
  simp only [hg, Option.bind_some, hd] at h
  exact Option.some.inj h
theorem VarsAt.only {w w' : World} (hV : VarsAt w) {R : Nat} {cs : Array Value} {t : TypeId} {m : Nat × Nat} (h : w.heap[R]? = some (.cells cs t m)) (h1 : ∀ tp p, cs ≠ #[.iface tp p]) (h2 : cs ≠ (Lib.pow10Tab.map fun z => Value.int .u64 z).toArray) (ho : Only1 R w w') : VarsAt w' := by
  obtain ⟨tb, ⟨tp1, p1, s1⟩, ⟨tp2, p2, r1⟩⟩ := hV
  have k1 : 3 ≠ R := fun e => by subst e; exact h2 (var_cells gTab tb h)
  have k2 : 1 ≠ R := fun e => by subst e; exact h1 _ _ (var_cells gSyn s1 h)
  have k3 : 2 ≠ R := fun e => by subst e; exact h1 _ _ (var_cells gRng r1 h)
  exact ⟨var_block gTab tb (ho.block _ (var_low gTab tb) k1), ⟨tp1, p1, var_block gSyn s1 (ho.block _ (var_low gSyn s1) k2)⟩, ⟨tp2, p2, var_block gRng r1 (ho.block _ (var_low gRng r1) k3)⟩⟩
theorem VarsAt.rd {w w' : World} {R : Nat} {s : ByteArray} {b : Bool} (hV : VarsAt w) (h : RdAt w R s b) (ho : Only1 R w w') : VarsAt w' :=
  hV.only h (fun tp p e => by have := congrArg Array.size e; simp at this) (fun e => by have := congrArg Array.size e; simp [Lib.pow10Tab] at this) ho
section
variable {w : World} {R : Nat} {s : ByteArray} {b : Bool}
/-- What a Label answers: nothing, where something was wrong. -/
def lbA (B : Bool) (v : Int) : Int := if B then 0 else v
set_option maxHeartbeats 2000000 in
set_option maxRecDepth 100000 in
theorem label_at (h : RdAt w R s b) (hV : VarsAt w) (r q : Option (Int × List UInt8)) (hr : Takes (bl s) 0 7 r) (hq : Takes (bl (iS s b r)) 0 65535 q) (hS : s.size ≤ 1000000000)
    (rv qv : Int) (S2 : ByteArray) (B2 : Bool) (e1 : iV b r = rv) (e2 : iV (iB b r) q = qv) (e3 : iS (iS s b r) (iB b r) q = S2) (e4 : iB (iB b r) q = B2) :
    Calls Tryz.prog 92 #[.pointer (some ⟨R, 0, none⟩)] w fun e w' => e = .returned (.agg #[.int .i64 (lbA B2 rv), .int .u16 (lbA B2 qv)]) ∧ RdAt w' R S2 B2 ∧ Only1 R w w' := by
  have hR := h.low
  have hb0 := (Below.refl w.heap.size w).alloc (Nat.le_refl _) (.cells #[.int .i64 0, .int .u16 0] 63)
  have hi0 := int_is (h.below hb0) (hV.later hb0) 0 7 r hr hS
  rw [e1] at hi0
  have HI := Lib.hid hi0
  clear hi0
  have hS2 := Nat.le_trans (iS_size (b := b) hr) hS
  have HV0 := Lib.hid (hV.later hb0)
  have HRD := Lib.hid (h.below hb0)
  have HO0 := Lib.hid (Only1.of_below (R := R) hb0)
  have HB0 := Lib.hid (made_at w (.cells #[.int .i64 0, .int .u16 0] 63))
  have hran := (iV_range (b := iB b r) hq).2
  rw [e2] at hran
  have h0 : 0 ≤ qv := by omega
  have h1 : qv ≤ 65535 := by omega
  have HQ := Lib.hid (fun (W : World) (g : RdAt W R (iS s b r) (iB b r)) (v : VarsAt W) => show Calls Tryz.prog 52 #[.pointer (some ⟨R, 0, none⟩), .int .i64 0, .int .i64 65535] W (fun e w' => e = .returned (.int .i64 qv) ∧ RdAt w' R S2 B2 ∧ Only1 R W w') by
    have g2 := int_is g v 0 65535 q hq hS2
    rw [e2, e3, e4] at g2
    exact g2)
  clear h hV hb0 hr hq hran e1 e2 e3 e4
  go_enter Tryz.func92, Tryz.ntmps92
  go_wp2_with fail
  refine HI.out.mono ?_
  rintro e w1 ⟨rfl, g1, ho1⟩
  have H1 := Lib.hid g1
  have HV1 := Lib.hid (HV0.out.rd HRD.out ho1)
  have HB1 := Lib.hid (ho1.at HB0.out (by omega))
  have HO1 := Lib.hid (HO0.out.trans ho1)
  clear g1 ho1 HI HO0 HB0 HV0 HRD
  go_wp2_with fail
  refine (HQ.out _ H1.out HV1.out).mono ?_
  rintro e w2 ⟨rfl, g2, ho2⟩
  have H2 := Lib.hid g2
  have HB2 := Lib.hid (ho2.at HB1.out (by omega))
  have HO2 := Lib.hid (HO1.out.trans ho2)
  clear g2 ho2 HV1 HB1 HO1 H1 HQ
  have zf := freeH HB2.out
  have z0 := cellH HB2.out 0
  have z1 := cellH HB2.out 1
  simp at z0 z1
  cases B2 with
  | true =>
    go_wp2_with fail
    refine (ok_is H2.out).mono ?_
    rintro e w3 ⟨rfl, rfl⟩
    go_wp2_with fail
    have k0 := cellH (row_set HB2.out (i := 0) (v := .int .i64 0)) 0
    have k1 := cellH (row_set (row_set HB2.out (i := 0) (v := .int .i64 0)) (i := 1) (v := .int .u16 0)) 1
    simp at k0 k1
    refine bodyPost_ret (v := .agg #[.int .i64 0, .int .u16 0]) (by simp [results, Tryz.results92, go_sem, k0, k1]) rfl ⟨rfl, ?_, ?_⟩
    · exact (H2.out.only (Only1.set _) (by omega)).only (Only1.set _) (by omega)
    · exact (HO2.out.setNew (Nat.le_refl _) _).setNew (Nat.le_refl _) _
  | false =>
    have hw : IntKind.u16.wrap qv = qv := by rw [IntKind.wrap_u16]; omega
    go_wp2_with fail
    refine (ok_is H2.out).mono ?_
    rintro e w3 ⟨rfl, rfl⟩
    go_wp2_with fail
    have k0 := cellH (row_set HB2.out (i := 0) (v := .int .i64 rv)) 0
    have k1 := cellH (row_set (row_set HB2.out (i := 0) (v := .int .i64 rv)) (i := 1) (v := .int .u16 qv)) 1
    simp at k0 k1
    refine bodyPost_ret (v := .agg #[.int .i64 rv, .int .u16 qv]) (by simp [results, Tryz.results92, go_sem, k0, k1]) rfl ⟨rfl, ?_, ?_⟩
    · exact (H2.out.only (Only1.set _) (by omega)).only (Only1.set _) (by omega)
    · exact (HO2.out.setNew (Nat.le_refl _) _).setNew (Nat.le_refl _) _
theorem label_is (h : RdAt w R s b) (hV : VarsAt w) (r q : Option (Int × List UInt8)) (hr : Takes (bl s) 0 7 r) (hq : Takes (bl (iS s b r)) 0 65535 q) (hS : s.size ≤ 1000000000) :
    Calls Tryz.prog 92 #[.pointer (some ⟨R, 0, none⟩)] w fun e w' => e = .returned (.agg #[.int .i64 (if iB (iB b r) q then 0 else iV b r), .int .u16 (if iB (iB b r) q then 0 else iV (iB b r) q)]) ∧ RdAt w' R (iS (iS s b r) (iB b r) q) (iB (iB b r) q) ∧ Only1 R w w' :=
  label_at h hV r q hr hq hS _ _ _ _ rfl rfl rfl rfl
end
end Go.Proofs.YtfjaibaidpbppaaGreatDoor

namespace Go.Proofs.YtfjaibaidpbppaaGreatDoor
open Go.RowKit Go.Extern.Stop Go.Stop Go.Extern

theorem asF_methodKind (h : Value) (w : World) : (Go.method 357 188 (.agg #[h]) "Kind").run Tryz.prog w = .ok (184, h) w := by kernel_rfl
theorem asF_kind25 (w : World) : ((ReflectliteType.abiMethod fun t => (fun a : Nat => Value.int IntKind.u8 (a : Int)) <$> Rtype.kind t) #[.pointer (some ⟨6, 184, none⟩)]).run Tryz.prog w = .ok (.int .u8 22) w := by kernel_rfl

theorem rlm (z : Sem Value) (f : TypeId → Addr → Nat → Nat → Sem Value) (v : Value) :
    ReflectliteValue.method z f #[v] = (do match ← ReflectliteValue.parts v with | none => z | some (t, a, fl) => f t a fl (fl % 32)) := rfl
theorem asF_methodElem (h : Value) (w : World) : (Go.method 357 188 (.agg #[h]) "Elem").run Tryz.prog w = .ok (188, .agg #[h]) w := by kernel_rfl
theorem asF_methodImplements (h : Value) (w : World) : (Go.method 357 188 (.agg #[h]) "Implements").run Tryz.prog w = .ok (189, .agg #[h]) w := by kernel_rfl
theorem asF_methodAssignableTo (h : Value) (w : World) : (Go.method 357 188 (.agg #[h]) "AssignableTo").run Tryz.prog w = .ok (186, .agg #[h]) w := by kernel_rfl
theorem asF_implements25 (w : World) : (ReflectliteType.relation "Implements" ReflectliteType.implements_ #[.agg #[.pointer (some ⟨6, 184, none⟩)], .iface 188 (.agg #[.pointer (some ⟨6, 127, none⟩)])]).run Tryz.prog w = .ok (.bool true) w := by kernel_rfl
theorem asF_typeOf25 (v : Value) (w : World) : (ReflectliteType.typeOf #[.iface 184 v]).run Tryz.prog w = .ok (.iface 188 (.agg #[.pointer (some ⟨6, 184, none⟩)])) w := by kernel_rfl
theorem asF_assignable25 (w : World) : (ReflectliteType.relation "AssignableTo" ReflectliteType.assignableTo #[.agg #[.pointer (some ⟨6, 184, none⟩)], .iface 188 (.agg #[.pointer (some ⟨6, 184, none⟩)])]).run Tryz.prog w = .ok (.bool true) w := by kernel_rfl
theorem asF_valueOf25 (e : Addr) (w : World) : (ReflectliteValue.unpack (.iface 184 (.pointer (some e)))).run Tryz.prog w
    = .ok (.agg #[.pointer (some ⟨6, 184, none⟩), .pointer (some ⟨w.heap.size, 0, none⟩), .int .u64 150]) (w.alloc (.cells #[.pointer (some e)] 184)) := by kernel_rfl

theorem asF_mk25 (p : Addr) (w : World) : (ReflectliteValue.mk 184 p ReflectliteValue.flagAddr).run Tryz.prog w = .ok (.agg #[.pointer (some ⟨6, 184, none⟩), .pointer (some p), .int .u64 406]) w := by kernel_rfl
theorem rls (v x : Value) : ReflectliteValue.set #[v, x] = (do
    let (some (dst, a, fl), some (src, b, _)) := (← ReflectliteValue.parts v, ← ReflectliteValue.parts x)
      | unsupported (.noEntry "extern/(internal/reflectlite.Value).Set.zeroValue")
    if fl / ReflectliteValue.flagAddr % 2 == 0 then unsupported (.noEntry "extern/(internal/reflectlite.Value).Set.unaddressable")
    let val ← loadVar src b
    if ← Rtype.directlyAssignable dst src then storeVar dst a val
    else if ← Rtype.implements dst src then
      if (← Rtype.kind src) == 20 then
        match val with
        | .nilIface => unsupported (.noEntry "extern/reflectlite: a nil value of one interface type handed on as a value of another")
        | _ => storeVar dst a val
      else storeVar dst a (.iface src val)
    else panicString ("reflectlite.Set: value of type " ++ (← Rtype.spelt src) ++ " is not assignable to type " ++ (← Rtype.spelt dst))
    pure (.tuple #[])) := rfl
theorem asF_parts25a (a : Addr) (w : World) : (ReflectliteValue.parts (.agg #[.pointer (some ⟨6, 184, none⟩), .pointer (some a), .int .u64 406])).run Tryz.prog w = .ok (some (184, a, 406)) w := by kernel_rfl
theorem asF_parts25 (a : Addr) (w : World) : (ReflectliteValue.parts (.agg #[.pointer (some ⟨6, 184, none⟩), .pointer (some a), .int .u64 150])).run Tryz.prog w = .ok (some (184, a, 150)) w := by kernel_rfl
theorem asF_direct25 (w : World) : (Rtype.directlyAssignable 184 184).run Tryz.prog w = .ok true w := by kernel_rfl
theorem asF_size25 (w : World) : (sizeOf 184).run Tryz.prog w = .ok 1 w := by kernel_rfl
theorem asF_set25 (ta b e : Addr) (old : Value) (W : World) (hb : W.cell? b = some (.pointer (some e))) (ht : W.cell? ta = some old) (hf : W.frozen? ta = false) :
    (ReflectliteValue.set #[.agg #[.pointer (some ⟨6, 184, none⟩), .pointer (some ta), .int .u64 406], .agg #[.pointer (some ⟨6, 184, none⟩), .pointer (some b), .int .u64 150]]).run Tryz.prog W
      = .ok (.tuple #[]) (W.setCell ta (.pointer (some e))) := by
  rw [rls]
  simp only [Sem.run_bind, asF_parts25a, asF_parts25, Result.andThen]
  simp [ReflectliteValue.flagAddr, loadVar, isAgg, underlying, Tryz.underlying184, hb, Result.andThen, asF_direct25, storeVar, Value.cells, storeCells, Addr.add]
  rw [run_store Tryz.prog W ta _ _ (by rfl)]
  simp [ht, hf]

end Go.Proofs.YtfjaibaidpbppaaGreatDoor
