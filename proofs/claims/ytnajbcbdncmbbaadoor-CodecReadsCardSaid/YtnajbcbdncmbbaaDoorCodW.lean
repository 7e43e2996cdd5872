/-
  The program's Reader: Label. Conditions: how the Reader lies, what the package-level variables hold, a text's length.
-/
import Derived.Test.YtnajbcbdncmbbaaDoorCodV
namespace Go.Proofs.YtnajbcbdncmbbaaDoor
open Go.RowKit
theorem Only1.setNew {R B i : Nat} {w w' : World} (h : Only1 R w w') (hB : w.heap.size ≤ B) (v : Value) : Only1 R w (w'.setCell ⟨B, i, none⟩ v) := by
  have hs := Only1.set (R := B) (i := i) (w := w') v
  exact ⟨hs.os.trans h.os, hs.tape.trans h.tape, hs.output.trans h.output, Nat.le_trans h.size hs.size, fun j hj hn => (hs.block j (Nat.lt_of_lt_of_le hj h.size) (by omega)).trans (h.block j hj hn)⟩
theorem var_cells {w : World} {n : String} {g : Nat} {cs : Array Value} (hg : Tryd.prog.globalNamed n = some g) (h : w.var? Tryd.prog n = some cs) {ds : Array Value} {t : TypeId} {m : Nat × Nat} (hd : w.heap[g]? = some (.cells ds t m)) : ds = cs := by
  unfold World.var? at h
  simp only [hg, Option.bind_some, hd] at h
  exact Option.some.inj h
theorem VarsAt.only {w w' : World} (hV : VarsAt w) {R : Nat} {cs : Array Value} {t : TypeId} {m : Nat × Nat} (h : w.heap[R]? = some (.cells cs t m)) (h1 : ∀ tp p, cs ≠ #[.iface tp p]) (h2 : cs ≠ (Lib.pow10Tab.map fun z => Value.int .u64 z).toArray) (ho : Only1 R w w') : VarsAt w' := by
  obtain ⟨tb, ⟨tp1, p1, s1⟩, ⟨tp2, p2, r1⟩⟩ := hV
  have k1 : 3 ≠ R := fun e => by subst e; exact h2 (var_cells gTab tb h)
  have k2 : 1 ≠ R := fun e => by subst e; exact h1 _ _ (var_cells gSyn s1 h)
  have k3 : 2 ≠ R := fun e => by subst e; exact h1 _ _ (var_cells gRng r1 h)
  exact ⟨var_block gTab tb (ho.block _ (var_low gTab tb) k1), ⟨tp1, p1, var_block gSyn s1 (ho.block _ (var_low gSyn s1) k2)⟩, ⟨tp2, p2, var_block gRng r1 (ho.block _ (var_low gRng r1) k3)⟩⟩
theorem VarsAt.rd {w w' : World} {R : Nat} {s : ByteArray} {b : Bool} (hV : VarsAt w) (h : RdAt w R s b) (ho : Only1 R w w') : VarsAt w' :=
  hV.only h (fun tp p e => by have := congrArg Array.size e; simp at this) (fun e => by have := congrArg Array.size e; simp [Lib.pow10Tab] at this) ho
section
variable {w : World} {R : Nat} {s : ByteArray} {b : Bool}
/-- What a Label answers: nothing, where something was wrong. -/
def lbA (B : Bool) (v : Int) : Int := if B then 0 else v
set_option maxHeartbeats 2000000 in
set_option maxRecDepth 100000 in
theorem label_at (h : RdAt w R s b) (hV : VarsAt w) (r q : Option (Int × List UInt8)) (hr : Takes (bl s) 0 7 r) (hq : Takes (bl (iS s b r)) 0 65535 q) (hS : s.size ≤ 1000000000)
    (rv qv : Int) (S2 : ByteArray) (B2 : Bool) (e1 : iV b r = rv) (e2 : iV (iB b r) q = qv) (e3 : iS (iS s b r) (iB b r) q = S2) (e4 : iB (iB b r) q = B2) :
    Calls Tryd.prog 19 #[.pointer (some ⟨R, 0, none⟩)] w fun e w' => e = .returned (.agg #[.int .i64 (lbA B2 rv), .int .u16 (lbA B2 qv)]) ∧ RdAt w' R S2 B2 ∧ Only1 R w w' := by
  have hR := h.low
  have hb0 := (Below.refl w.heap.size w).alloc (Nat.le_refl _) (.cells #[.int .i64 0, .int .u16 0] 30)
  have hi0 := int_is (h.below hb0) (hV.later hb0) 0 7 r hr hS
  rw [e1] at hi0
  have HI := Lib.hid hi0
  clear hi0
  have hS2 := Nat.le_trans (iS_size (b := b) hr) hS
  have HV0 := Lib.hid (hV.later hb0)
  have HRD := Lib.hid (h.below hb0)
  have HO0 := Lib.hid (Only1.of_below (R := R) hb0)
  have HB0 := Lib.hid (made_at w (.cells #[.int .i64 0, .int .u16 0] 30))
  have hran := (iV_range (b := iB b r) hq).2
  rw [e2] at hran
  have h0 : 0 ≤ qv := by omega
  have h1 : qv ≤ 65535 := by omega
  have HQ := Lib.hid (fun (W : World) (g : RdAt W R (iS s b r) (iB b r)) (v : VarsAt W) => show Calls Tryd.prog 17 #[.pointer (some ⟨R, 0, none⟩), .int .i64 0, .int .i64 65535] W (fun e w' => e = .returned (.int .i64 qv) ∧ RdAt w' R S2 B2 ∧ Only1 R W w') by
    have g2 := int_is g v 0 65535 q hq hS2
    rw [e2, e3, e4] at g2
    exact g2)
  clear h hV hb0 hr hq hran e1 e2 e3 e4
  go_enter Tryd.func19, Tryd.ntmps19
  go_wp2_with fail
  refine HI.out.mono ?_
  rintro e w1 ⟨rfl, g1, ho1⟩
  have H1 := Lib.hid g1
  have HV1 := Lib.hid (HV0.out.rd HRD.out ho1)
  have HB1 := Lib.hid (ho1.at HB0.out (by omega))
  have HO1 := Lib.hid (HO0.out.trans ho1)
  clear g1 ho1 HI HO0 HB0 HV0 HRD
  go_wp2_with fail
  refine (HQ.out _ H1.out HV1.out).mono ?_
  rintro e w2 ⟨rfl, g2, ho2⟩
  have H2 := Lib.hid g2
  have HB2 := Lib.hid (ho2.at HB1.out (by omega))
  have HO2 := Lib.hid (HO1.out.trans ho2)
  clear g2 ho2 HV1 HB1 HO1 H1 HQ
  have zf := freeH HB2.out
  have z0 := cellH HB2.out 0
  have z1 := cellH HB2.out 1
  simp at z0 z1
  cases B2 with
  | true =>
    go_wp2_with fail
    refine (ok_is H2.out).mono ?_
    rintro e w3 ⟨rfl, rfl⟩
    go_wp2_with fail
    have k0 := cellH (row_set HB2.out (i := 0) (v := .int .i64 0)) 0
    have k1 := cellH (row_set (row_set HB2.out (i := 0) (v := .int .i64 0)) (i := 1) (v := .int .u16 0)) 1
    simp at k0 k1
    refine bodyPost_ret (v := .agg #[.int .i64 0, .int .u16 0]) (by simp [results, Tryd.results19, go_sem, k0, k1]) rfl ⟨rfl, ?_, ?_⟩
    · exact (H2.out.only (Only1.set _) (by omega)).only (Only1.set _) (by omega)
    · exact (HO2.out.setNew (Nat.le_refl _) _).setNew (Nat.le_refl _) _
  | false =>
    have hw : IntKind.u16.wrap qv = qv := by rw [IntKind.wrap_u16]; omega
    go_wp2_with fail
    refine (ok_is H2.out).mono ?_
    rintro e w3 ⟨rfl, rfl⟩
    go_wp2_with fail
    have k0 := cellH (row_set HB2.out (i := 0) (v := .int .i64 rv)) 0
    have k1 := cellH (row_set (row_set HB2.out (i := 0) (v := .int .i64 rv)) (i := 1) (v := .int .u16 qv)) 1
    simp at k0 k1
    refine bodyPost_ret (v := .agg #[.int .i64 rv, .int .u16 qv]) (by simp [results, Tryd.results19, go_sem, k0, k1]) rfl ⟨rfl, ?_, ?_⟩
    · exact (H2.out.only (Only1.set _) (by omega)).only (Only1.set _) (by omega)
    · exact (HO2.out.setNew (Nat.le_refl _) _).setNew (Nat.le_refl _) _
theorem label_is (h : RdAt w R s b) (hV : VarsAt w) (r q : Option (Int × List UInt8)) (hr : Takes (bl s) 0 7 r) (hq : Takes (bl (iS s b r)) 0 65535 q) (hS : s.size ≤ 1000000000) :
    Calls Tryd.prog 19 #[.pointer (some ⟨R, 0, none⟩)] w fun e w' => e = .returned (.agg #[.int .i64 (if iB (iB b r) q then 0 else iV b r), .int .u16 (if iB (iB b r) q then 0 else iV (iB b r) q)]) ∧ RdAt w' R (iS (iS s b r) (iB b r) q) (iB (iB b r) q) ∧ Only1 R w w' :=
  label_at h hV r q hr hq hS _ _ _ _ rfl rfl rfl rfl
end
end Go.Proofs.YtnajbcbdncmbbaaDoor
