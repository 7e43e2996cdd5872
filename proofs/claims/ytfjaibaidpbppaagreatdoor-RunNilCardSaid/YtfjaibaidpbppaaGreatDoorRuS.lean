/-
  The program's run: a pipeline read. Conditions: what the library's variables hold, a text's length.
-/
import Derived.Test.YtfjaibaidpbppaaGreatDoorRuR
namespace Go.Proofs.YtfjaibaidpbppaaGreatDoor
open Go.RowKit

/-- A pipeline is read. -/
structure PiR (S : ByteArray) (b : Bool) (nm : ByteArray) (ts : List TkP) (S' : ByteArray) (b' : Bool) : Prop where
  yes : b' = false → b = false ∧ bl S = numT (nm.size : Int) ++ (bl nm ++ (numT (ts.length : Int) ++ (ts.flatMap tkB ++ bl S')))
  hit : ∀ (n : ByteArray) (us : List TkP) (Y : List UInt8), b = false → n.size ≤ 8 → 1 ≤ us.length → us.length ≤ 8 → (∀ u ∈ us, TkFits u) → bl S = numT (n.size : Int) ++ (bl n ++ (numT (us.length : Int) ++ (us.flatMap tkB ++ Y))) → b' = false ∧ nm = n ∧ ts = us ∧ bl S' = Y
  few : ts.length ≤ 8 ∧ nm.size ≤ 8 ∧ ∀ t ∈ ts, t.after.length ≤ 8 ∧ t.name.size ≤ 8 ∧ 0 ≤ t.st ∧ t.st ≤ 65535
  size : S'.size ≤ S.size
/-- While its tasks are read. -/
structure TsR (S : ByteArray) (b : Bool) (nm : ByteArray) (cnt : Int) (l : List TkP) (S' : ByteArray) (b' : Bool) : Prop where
  yes : b' = false → b = false ∧ bl S = numT (nm.size : Int) ++ (bl nm ++ (numT cnt ++ (l.flatMap tkB ++ bl S')))
  hit : ∀ (n : ByteArray) (us : List TkP) (Y : List UInt8), b = false → n.size ≤ 8 → 1 ≤ us.length → us.length ≤ 8 → (∀ u ∈ us, TkFits u) → bl S = numT (n.size : Int) ++ (bl n ++ (numT (us.length : Int) ++ (us.flatMap tkB ++ Y))) → b' = false ∧ nm = n ∧ cnt = (us.length : Int) ∧ l = us.take l.length ∧ bl S' = (us.drop l.length).flatMap tkB ++ Y
  cb : 0 ≤ cnt ∧ cnt ≤ 8
  nb : nm.size ≤ 8
  few : ∀ t ∈ l, t.after.length ≤ 8 ∧ t.name.size ≤ 8 ∧ 0 ≤ t.st ∧ t.st ≤ 65535
  size : S'.size ≤ S.size
theorem TsR.start {S S1 S2 : ByteArray} {b b1 b2 : Bool} {nm : ByteArray} {cnt : Int} (h1 : RdT S b 8 nm S1 b1) (h2 : Rd1 S1 b1 1 8 cnt S2 b2) : TsR S b nm cnt [] S2 b2 := by
  refine ⟨fun hb => ?_, fun n us Y hb hn hu1 hu8 hu hS => ?_, ?_, ?_, (fun t ht => by cases ht), Nat.le_trans h2.size h1.size⟩
  · have g2 := h2.yes hb
    have g1 := h1.yes g2.1
    exact ⟨g1.1, by rw [g1.2.2, bl_num g2.2.2.2]; rfl⟩
  · obtain ⟨a1, a2, a3⟩ := h1.hit n _ hb (by omega) (by omega) hS
    obtain ⟨c1, c2, c3⟩ := h2.hit a1 (by omega) (by omega) (by omega) (by omega) a3
    exact ⟨c1, a2, c2, rfl, by rw [c3]; simp only [List.length_nil, List.drop_zero]⟩
  · cases hb : b2 with
    | true => have := h2.bad hb; omega
    | false => have := h2.yes hb; omega
  · cases hb : b1 with
    | true => rw [h1.bad hb]; decide
    | false => have := (h1.yes hb).2.1; omega
theorem TsR.next {S S' S2 : ByteArray} {b b' b2 : Bool} {nm : ByteArray} {cnt : Int} {l : List TkP} {t : TkP} (h : TsR S b nm cnt l S' b') (hl : (l.length : Int) < cnt) (hd : TkR S' b' t S2 b2) : TsR S b nm cnt (l ++ [t]) S2 b2 := by
  refine ⟨fun hb => ?_, fun n us Y hb hn hu1 hu8 hu hS => ?_, h.cb, h.nb, fun u hu => ?_, Nat.le_trans hd.size h.size⟩
  · have g2 := hd.yes hb
    have g1 := h.yes g2.1
    refine ⟨g1.1, ?_⟩
    rw [g1.2, List.flatMap_append, List.flatMap_cons, List.flatMap_nil, List.append_nil, g2.2]
    simp only [List.append_assoc]
  · obtain ⟨e1, e2, e3, e4, e5⟩ := h.hit n us Y hb hn hu1 hu8 hu hS
    have hlt : l.length < us.length := by omega
    have hx := List.getElem?_eq_getElem hlt
    rw [List.drop_eq_getElem_cons hlt, List.flatMap_cons, List.append_assoc] at e5
    obtain ⟨c1, c2, c3⟩ := hd.hit _ _ e1 (hu _ (List.getElem_mem hlt)) e5
    refine ⟨c1, e2, e3, ?_, ?_⟩
    · rw [List.length_append, List.length_singleton, List.take_add_one, hx, ← e4, c2]
      rfl
    · rw [List.length_append, List.length_singleton]
      exact c3
  · rcases List.mem_append.1 hu with h1 | h1
    · exact h.few u h1
    · obtain rfl := List.mem_singleton.1 h1
      exact hd.few
theorem TsR.last {S S' : ByteArray} {b b' : Bool} {nm : ByteArray} {cnt : Int} {l : List TkP} (h : TsR S b nm cnt l S' b') (hl : (l.length : Int) = cnt) : PiR S b nm l S' b' := by
  refine ⟨fun hb => by rw [hl]; exact h.yes hb, fun n us Y hb hn hu1 hu8 hu hS => ?_, ⟨by have := h.cb; omega, h.nb, h.few⟩, h.size⟩
  obtain ⟨e1, e2, e3, e4, e5⟩ := h.hit n us Y hb hn hu1 hu8 hu hS
  have hll : l.length = us.length := by omega
  rw [hll, List.take_length] at e4
  rw [hll, List.drop_length] at e5
  exact ⟨e1, e2, e4, e5⟩
abbrev zP : Array Value := #[.string ⟨#[]⟩, .slice none 0 0]
/-- What is held while a pipeline is read: the result, the pipeline so far. -/
structure RpS (w : World) (Q Pk : Nat) (S : ByteArray) (b : Bool) (nm : ByteArray) (v : Value) (l : List TkP) (vs : List Value) (W : World) : Prop where
  od : Only1 Q w W
  rd : RdAt W Q S b
  lo : Q < w.heap.size
  v0 : VarsAt w
  r0 : ∃ S0 b0, RdAt w Q S0 b0
  rs : W.heap[w.heap.size]? = some (.cells zP 24 (0, 0))
  pk : W.heap[Pk]? = some (.cells #[.string nm, v] 24 (0, 0))
  plo : w.heap.size < Pk
  ow : W.ownsRow (Pk + 1) 65 7 v l.length ((l.zip vs).flatMap tkQ)
  len : vs.length = l.length
  aft : ∀ (i : Nat) t u, l[i]? = some t → vs[i]? = some u → ∃ A c, u = .slice A t.after.length c ∧ NatsRow W W.heap.size A t.after ∧ t.after.length ≤ c ∧ ∀ ad, A = some ad → w.heap.size ≤ ad.block
section
variable {w W V : World} {Q Pk : Nat} {S S2 nm : ByteArray} {b b2 : Bool} {v v2 : Value} {l : List TkP} {vs : List Value}
theorem RpS.only (h : RpS w Q Pk S b nm v l vs W) (hr : RdAt V Q S2 b2) (ho : Only1 Q W V) : RpS w Q Pk S2 b2 nm v l vs V := by
  have h1 := h.lo
  have h2 := h.plo
  refine ⟨h.od.trans ho, hr, h1, h.v0, h.r0, ho.at h.rs (by omega), ho.at h.pk (by omega), h2, own_frame h.ow fun q cur hq hc => ho.block q (Array.getElem?_eq_some_iff.1 hc).1 (by omega), h.len, fun i t u ht hu => ?_⟩
  obtain ⟨A, c, e, hN, hc, hA⟩ := h.aft i t u ht hu
  exact ⟨A, c, e, hN.frame ho.size (fun q cur hq hc => ho.block q hq (fun e => by rw [e] at hc; exact absurd (tag_ne hc h.rd) (by decide))), hc, hA⟩
theorem RpS.ve (h : RpS w Q Pk S b nm v l vs W) : VarsAt W := by
  obtain ⟨_, _, hr⟩ := h.r0
  exact h.v0.rd hr h.od
theorem RpS.later (h : RpS w Q Pk S b nm v l vs W) (hb : Below W.heap.size W V) : RpS w Q Pk S b nm v l vs V := h.only (h.rd.below hb) (.of_below hb)
theorem zip_snoc {α β : Type} {a : α} {b : β} : ∀ {l : List α} {m : List β}, l.length = m.length → (l ++ [a]).zip (m ++ [b]) = l.zip m ++ [(a, b)]
  | [], [], _ => rfl
  | x :: l, y :: m, h => by
    simp only [List.cons_append, List.zip_cons_cons]
    rw [zip_snoc (by simpa using h)]
/-- One more behind. -/
theorem RpS.put {t : TkP} {A : Option Addr} {c : Nat} {V : World} (h : RpS w Q Pk S b nm v l vs W) (hN : NatsRow W W.heap.size A t.after) (hc : t.after.length ≤ c) (hA : ∀ ad, A = some ad → w.heap.size ≤ ad.block)
    (hown : V.ownsRow (Pk + 1) 65 7 v2 (l.length + 1) ((l.zip vs).flatMap tkQ ++ tkC t (.slice A t.after.length c))) (hg : (W.alloc (.cells (tkA t A c) 65)).grownBy V v.ownBlock) :
    V.heap[Pk]? = some (.cells #[.string nm, v] 24 (0, 0)) ∧ RpS w Q Pk S b nm v2 (l ++ [t]) (vs ++ [.slice A t.after.length c]) (V.setCell ⟨Pk, 1, none⟩ v2) := by
  have h1 := h.lo
  have h2 := h.plo
  have hPk := (Array.getElem?_eq_some_iff.1 h.pk).1
  have hal := (Below.refl (Pk + 1) W).alloc (show Pk + 1 ≤ W.heap.size by omega) (.cells (tkA t A c) 65)
  have hb : Below (Pk + 1) W V := hal.grown hg (Nat.le_trans (show Pk + 1 ≤ W.heap.size by omega) hal.size) (fun q hq => (own_tag h.ow hq).1)
  have hk : ∀ q o, q < Pk + 1 → W.heap[q]? = some o → V.heap[q]? = some o := fun q o hq ho => by rw [hb.block q hq]; exact ho
  have hn2 := hk _ _ (Nat.lt_succ_self _) h.pk
  have hod : Only1 Q w (V.setCell ⟨Pk, 1, none⟩ v2) := Only1.setNew ⟨hb.os.trans h.od.os, hb.tape.trans h.od.tape, hb.output.trans h.od.output, Nat.le_trans h.od.size hb.size, fun i hi hn => (hb.block i (by omega)).trans (h.od.block i hi hn)⟩ (by omega) v2
  have hint : ∀ (q : Nat) cur, q < W.heap.size → W.heap[q]? = some (.cells cur 3 (0, 0)) → (V.setCell ⟨Pk, 1, none⟩ v2).heap[q]? = W.heap[q]? := fun q cur hq hcu => by
    have hne : q ≠ Pk := fun e => by rw [e] at hcu; exact absurd (tag_ne hcu h.pk) (by decide)
    rw [set_other hne]
    have ha : (W.alloc (.cells (tkA t A c) 65)).heap[q]? = W.heap[q]? := ((Below.refl W.heap.size W).alloc (Nat.le_refl _) _).block q hq
    refine (hg.block q (by rw [World.size_alloc]; omega) (fun e => ?_)).trans ha
    obtain ⟨_, cur', h3⟩ := own_tag h.ow e.symm
    exact absurd (tag_ne hcu h3) (by decide)
  have hsz : W.heap.size ≤ (V.setCell ⟨Pk, 1, none⟩ v2).heap.size := by rw [World.size_setCell]; exact hb.size
  refine ⟨hn2, hod, ?_, h1, h.v0, h.r0, ?_, ?_, h2, ?_, by rw [List.length_append, List.length_append, h.len]; rfl, fun i u x hu hx => ?_⟩
  · show _ = _
    rw [set_other (by omega)]
    exact hk _ _ (by omega) h.rd
  · rw [set_other (by omega)]
    exact hk _ _ (by omega) h.rs
  · rw [row_set hn2]
    rfl
  · rw [zip_snoc h.len.symm, List.flatMap_append, List.length_append, List.length_singleton]
    have e : [(t, Value.slice A t.after.length c)].flatMap tkQ = tkC t (.slice A t.after.length c) := by simp [tkQ]
    rw [e]
    exact own_frame hown fun q _ hq _ => set_other (by omega)
  · by_cases hil : i < l.length
    · rw [List.getElem?_append_left hil] at hu
      rw [List.getElem?_append_left (by rw [h.len]; exact hil)] at hx
      obtain ⟨A', c', e, hN', hc', hA'⟩ := h.aft i u x hu hx
      exact ⟨A', c', e, hN'.frame hsz hint, hc', hA'⟩
    · have hi : i = l.length := by
        have := (List.getElem?_eq_some_iff.1 hu).1
        simp at this
        omega
      subst hi
      obtain rfl : t = u := by simpa using hu
      rw [← h.len] at hx
      obtain rfl : Value.slice A t.after.length c = x := by simpa using hx
      exact ⟨A, c, rfl, hN.frame hsz hint, hc, hA⟩
/-- How the pipeline lies that was read. -/
def RpRow (w w' : World) (A : Option Addr) (c : Nat) (ts : List TkP) : Prop := TksAt w' A ts ∧ (1 ≤ ts.length → ∃ g X, A = some ⟨g, 0, none⟩ ∧ TksX w' X g ts ∧ g ∈ X ∧ (∀ i ∈ X, w.heap.size ≤ i ∧ i < w'.heap.size) ∧ ts.length ≤ c)
/-- What readPipe answers. -/
def RpkOut (w : World) (Q : Nat) (S : ByteArray) (b : Bool) (e : Ending) (w' : World) : Prop := ∃ nm ts A c S' b', e = .returned (.agg #[.string nm, .slice A ts.length c]) ∧ RpRow w w' A c ts ∧ RdAt w' Q S' b' ∧ Only1 Q w w' ∧ PiR S b nm ts S' b'
/-- The result is laid. -/
theorem RpS.done {S0 : ByteArray} {b0 : Bool} (h : RpS w Q Pk S b nm v l vs W) (hR : PiR S0 b0 nm l S b) (x y : Value) : ∃ A c, v = .slice A l.length c ∧
    RpkOut w Q S0 b0 (.returned (.agg #[.string nm, .slice A l.length c])) ((W.setCell ⟨w.heap.size, 0, none⟩ x).setCell ⟨w.heap.size, 1, none⟩ y) := by
  have h1 := h.lo
  have h2 := h.plo
  have hs : ∀ q, q ≠ w.heap.size → ((W.setCell ⟨w.heap.size, 0, none⟩ x).setCell ⟨w.heap.size, 1, none⟩ y).heap[q]? = W.heap[q]? := fun q hq => (set_other hq).trans (set_other hq)
  have hsz : ((W.setCell ⟨w.heap.size, 0, none⟩ x).setCell ⟨w.heap.size, 1, none⟩ y).heap.size = W.heap.size := by simp only [World.size_setCell]
  have hod : Only1 Q w ((W.setCell ⟨w.heap.size, 0, none⟩ x).setCell ⟨w.heap.size, 1, none⟩ y) := (h.od.setNew (Nat.le_refl _) _).setNew (Nat.le_refl _) _
  generalize ((W.setCell ⟨w.heap.size, 0, none⟩ x).setCell ⟨w.heap.size, 1, none⟩ y) = V at *
  have hrd : RdAt V Q S b := by
    show _ = _
    rw [hs Q (by omega)]
    exact h.rd
  have hint : ∀ (q : Nat) cur, q < W.heap.size → W.heap[q]? = some (.cells cur 3 (0, 0)) → V.heap[q]? = W.heap[q]? := fun q cur _ hq => hs q (fun e => by rw [e] at hq; exact absurd (tag_ne hq h.rs) (by decide))
  rcases h.ow.2 with ⟨rfl, h0⟩ | ⟨g, cap, cur, e, hbg, hg, hn, hcp, hsz2, htk⟩
  · have hl0 : l = [] := List.eq_nil_of_length_eq_zero h0
    subst hl0
    exact ⟨none, 0, rfl, nm, [], none, 0, S, b, rfl, ⟨fun hn => absurd hn (Nat.lt_irrefl _), fun hn => absurd hn (by simp)⟩, hrd, hod, hR⟩
  · have hgs : V.heap[g]? = W.heap[g]? := hs g (by omega)
    have hgl : g < V.heap.size := by rw [hsz]; exact (Array.getElem?_eq_some_iff.1 hg).1
    have hTX : TksX V ((List.range V.heap.size).filter (fun i => decide (w.heap.size ≤ i))) g l := fun i t ht => by
      have hk := (List.getElem?_eq_some_iff.1 ht).1
      have hv := List.getElem?_eq_getElem (l := vs) (i := i) (by rw [h.len]; exact hk)
      obtain ⟨A, c, e2, hN, hc, hA⟩ := h.aft i t _ ht hv
      rw [e2] at hv
      refine ⟨A, c, fun j u hu => ?_, (hN.frame (lb' := W.heap.size) (Nat.le_refl _) hint).nats, hc, fun hl ad ea => ?_⟩
      · have h3 := flat_at tkQ 7 tkQ_len (l.zip vs) i (t, .slice A t.after.length c) j u (by rw [List.getElem?_zip_eq_some]; exact ⟨ht, hv⟩) hu
        rw [← htk] at h3
        have hj := (List.getElem?_eq_some_iff.1 h3).1
        rw [List.length_take] at hj
        rw [List.getElem?_take_of_lt (by omega), Array.getElem?_toList] at h3
        rw [cellH (hgs.trans hg)]
        exact h3
      · obtain ⟨q, cur2, e3, hq, _⟩ := hN hl
        have e4 := Option.some.inj (ea.symm.trans e3)
        have := hA ad ea
        rw [e4] at this ⊢
        simp only [List.mem_filter, List.mem_range, decide_eq_true_eq]
        exact ⟨by rw [hsz]; exact hq, this⟩
    refine ⟨some ⟨g, 0, none⟩, cap, e, nm, l, some ⟨g, 0, none⟩, cap, S, b, rfl, ⟨hTX.tks, fun _ => ⟨g, _, rfl, hTX, ?_, fun i hi => ?_, hn⟩⟩, hrd, hod, hR⟩
    · simp only [List.mem_filter, List.mem_range, decide_eq_true_eq]
      exact ⟨hgl, by omega⟩
    · simp only [List.mem_filter, List.mem_range, decide_eq_true_eq] at hi
      exact ⟨hi.2, hi.1⟩
end
theorem info_tskS : (Tryz.prog.info? 65).map (fun i => (i.zero, i.size, i.bytes)) = some (some (.agg #[.string ⟨#[]⟩, .slice none 0 0, .int .i64 0, .int .i64 0, .int .i64 0, .int .i64 0, .int .u16 0]), 7, 80) := by kernel_rfl
section
variable {w : World} {Q : Nat} {S : ByteArray} {b : Bool}
set_option maxHeartbeats 8000000 in
set_option maxRecDepth 100000 in
theorem rpipe_read (hr : RdAt w Q S b) (hV : VarsAt w) (hS : S.size ≤ 1000000) : Calls Tryz.prog 47 #[ptrV Q] w (RpkOut w Q S b) := by
  obtain ⟨i0, hi, hz0, hz1, hz2⟩ := info_all info_tskS
  have b1 := (Below.refl w.heap.size w).alloc (Nat.le_refl _) (.cells zP 24)
  have m1 := made_at w (.cells zP 24)
  have HR0 := Lib.hid hr
  have HV0 := Lib.hid hV
  have HSZ := Lib.hid hS
  have HB1 := Lib.hid b1
  have HM1 := Lib.hid m1
  clear hr hV hS b1 m1
  go_enter Tryz.func47, Tryz.ntmps47
  go_upto_region 1 with fail
  generalize hW0 : w.alloc _ = W0 at *
  clear hW0
  go_wp2_with fail
  refine (text_stepR (HR0.out.below HB1.out) (HV0.out.later HB1.out) HSZ.out 8).mono ?_
  rintro e w1 ⟨nm, S1, q1, rfl, hr1, ho1, hd1⟩
  have b2 := (Below.refl w1.heap.size w1).alloc (Nat.le_refl _) (.cells #[.string nm, .slice none 0 0] 24)
  have HS1 := Lib.hid (show RpS w Q w1.heap.size S1 q1 nm (.slice none 0 0) [] [] (w1.alloc (.cells #[.string nm, .slice none 0 0] 24)) from by
    have hq := HR0.out.low
    have hrs := ho1.at HM1.out (by omega)
    exact ⟨((Only1.of_below HB1.out).trans ho1).trans (.of_below b2), hr1.below b2, hq, HV0.out, ⟨_, _, HR0.out⟩, later_at b2 hrs, made_at _ _, (Array.getElem?_eq_some_iff.1 hrs).1, World.ownsRow_nil _ _ _ _, rfl, fun i t u ht => by simp at ht⟩)
  have HD1 := Lib.hid hd1
  have HSZ1 := Lib.hid (Nat.le_trans hd1.size HSZ.out)
  clear hr1 ho1 hd1 b2 HM1 HB1 HR0 HV0
  go_upto_region 2 with fail
  generalize w1.alloc _ = W1 at *
  generalize w1.heap.size = Pk at *
  go_wp2_with fail
  refine (int_step HS1.out.rd HS1.out.ve HSZ1.out 1 8).mono ?_
  rintro e w2 ⟨cnt, S2, q2, rfl, hr2, ho2, hd2⟩
  have HS2 := Lib.hid (HS1.out.only hr2 ho2)
  have HP2 := Lib.hid (TsR.start HD1.out hd2)
  have hcb := HP2.out.cb
  clear hr2 ho2 hd2 HS1 HD1 HSZ1
  go_wp2_with fail
  go_loopw [9] (fun i wr => ∃ (v : Value) (S' : ByteArray) (q : Bool) (l : List TkP) (vs : List Value), i = .int .i64 (l.length : Int) ∧ (l.length : Int) ≤ cnt ∧ Hid (TsR S b nm cnt l S' q) ∧ Hid (RpS w Q Pk S' q nm v l vs wr)) (fun i _ => cnt.toNat - (intOf i).toNat)
  case atStart => exact ⟨_, S2, q2, [], [], rfl, hcb.1, HP2, HS2⟩
  case round =>
    obtain ⟨v, S', q, l, vs, rfl, hk, HP, HS⟩ := hrel
    clear HP2 HS2
    by_cases hlt : (l.length : Int) < cnt
    · go_upto_region 4 with fail
      refine wp_region_noPanic ?_
      refine wp_region_held_drew (S := fun _ => True) (by kernel_rfl) trivial (fun hHeld => ?_)
      refine take_yes 0 11 (v := ?_) rfl rfl (by kernel_rfl) (by kernel_rfl) (by kernel_rfl) noPanic_any (by rfl) hHeld ?_ ?_
      rotate_left
      · intro wx hSw; (try dsimp only at hSw); go_simp <;> with_reducible rfl
      simp only [Act.put, List.setIfInBounds_toArray, List.set_cons_zero, List.set_cons_succ]
      refine take_yes 2 13 (v := ?_) rfl rfl (by kernel_rfl) (by kernel_rfl) (by kernel_rfl) noPanic_any (by rfl) hHeld ?_ ?_
      rotate_left
      · intro wx hSw; (try dsimp only at hSw); go_simp <;> with_reducible rfl
      simp only [Act.put, List.setIfInBounds_toArray, List.set_cons_zero, List.set_cons_succ]
      have HS3 := Lib.hid (HS.out.later (Below.refl _ _).drew)
      generalize wr.drew = W3 at *
      clear HS hHeld
      refine two_rdyH (i := 1) (j := 3) (by kernel_rfl) (wpOp_step rfl (fun KK hKK => ?_)) (wpOp_step rfl (fun KK hKK => ?_))
      · have HKK := Lib.hid hKK
        clear hKK
        have y1 := cellH HS3.out.pk 1
        simp at y1
        go_simp
        refine HKK.out _ _ ⟨trivial, ?_⟩
        clear HKK KK y1
        (try simp only [Act.put, List.setIfInBounds_toArray, List.set_cons_zero, List.set_cons_succ])
        refine one_readyH (i := 3) (by kernel_rfl) (wpOp_step rfl (fun KK hKK => ?_))
        have HKK := Lib.hid hKK
        clear hKK
        go_simp
        refine (rtask_is HS3.out.rd HS3.out.ve (Nat.le_trans HP.out.size HSZ.out)).mono ?_
        rintro e w5 ⟨t, A, c, S5, q5, rfl, hN5, hc5, hA5, hr5, ho5, hd5⟩
        have HA5 := Lib.hid (show NatsRow w5 w5.heap.size A t.after ∧ t.after.length ≤ c ∧ ∀ ad, A = some ad → w.heap.size ≤ ad.block from ⟨hN5, hc5, fun ad e => Nat.le_trans HS3.out.od.size (hA5 ad e)⟩)
        have HS5 := Lib.hid (HS3.out.only hr5 ho5)
        have HP5 := Lib.hid (HP.out.next hlt hd5)
        refine HKK.out _ _ ⟨trivial, ?_⟩
        clear HKK KK hN5 hc5 hA5 hr5 ho5 hd5
        (try simp only [Act.put, List.setIfInBounds_toArray, List.set_cons_zero, List.set_cons_succ])
        refine one_readyH (i := 4) (by kernel_rfl) (wpOp_step rfl (fun KK hKK => ?_))
        have HKK := Lib.hid hKK
        clear hKK
        go_simp
        refine HKK.out _ _ ⟨trivial, ?_⟩
        clear HKK KK
        (try simp only [Act.put, List.setIfInBounds_toArray, List.set_cons_zero, List.set_cons_succ])
        refine one_readyH (i := 5) (by kernel_rfl) (wpOp_step rfl (fun KK hKK => ?_))
        have HKK := Lib.hid hKK
        clear hKK
        have hsz1 : Pk + 1 ≤ (w5.alloc (.cells (tkA t A c) 65)).heap.size := by have := (Array.getElem?_eq_some_iff.1 HS5.out.pk).1; simp; omega
        have hl8 : l.length ≤ 8 := by have := HP.out.cb; omega
        refine step_append_own _ rfl (.tmp 12) (.tmp 15) 22 rfl (Pk + 1) 65 i0 _ 7 80 Tryz.underlying22 hi hz0 hz1 hz2 rfl (by omega) v l.length ((l.zip vs).flatMap tkQ) rfl (HS5.out.ow.alloc _) ⟨w5.heap.size, 0, none⟩ 1 1 (tkC t (.slice A t.after.length c)) rfl rfl (cells_new w5 (tkC t (.slice A t.after.length c)) _) (fun u hu => by
          simp only [tkC, List.mem_cons, List.not_mem_nil, or_false] at hu
          rcases hu with rfl | rfl | rfl | rfl | rfl | rfl | rfl <;> rfl) (by unfold maxLen; omega) (by omega) hsz1 ?_
        intro v7 W7 hown7 hg7 _
        obtain ⟨hn7, hS7⟩ := HS5.out.put HA5.out.1 HA5.out.2.1 HA5.out.2.2 hown7 hg7
        obtain ⟨B7, d7, rfl⟩ : ∃ B d, v7 = .slice B (l.length + 1) d := by
          rcases hown7.2 with ⟨_, h0⟩ | ⟨g, cap, cur, e, _⟩
          · omega
          · exact ⟨_, _, e⟩
        have z1 := cellH hn7 1
        have zf := freeH hn7 1
        simp at z1
        have HS7 := Lib.hid hS7
        refine HKK.out _ _ ⟨trivial, ?_⟩
        clear HKK KK hown7 hg7 hn7 hS7 hsz1
        (try simp only [Act.put, List.setIfInBounds_toArray])
        refine one_readyH (i := 6) (by kernel_rfl) (wpOp_step rfl (fun KK hKK => ?_))
        have HKK := Lib.hid hKK
        clear hKK
        go_simp
        refine HKK.out _ _ ⟨trivial, ?_⟩
        clear HKK KK
        (try simp only [Act.put, List.setIfInBounds_toArray, List.set_cons_zero, List.set_cons_succ])
        refine one_readyH (i := 7) (by kernel_rfl) (wpOp_step rfl (fun KK hKK => ?_))
        have HKK := Lib.hid hKK
        clear hKK
        go_simp
        refine HKK.out _ _ ⟨trivial, ?_⟩
        clear HKK KK z1 zf
        refine wpAnyH_done (by kernel_rfl) ?_ _
        refine NoPanic.normal ?_
        go_wp2_with fail
        go_roundw
        case rel => exact ⟨_, S5, q5, l ++ [t], _, by simp, by simp; omega, HP5, HS7⟩
        case measure => simp [intOf]; omega
      · have HKK := Lib.hid hKK
        clear hKK
        go_simp
        refine (rtask_is HS3.out.rd HS3.out.ve (Nat.le_trans HP.out.size HSZ.out)).mono ?_
        rintro e w5 ⟨t, A, c, S5, q5, rfl, hN5, hc5, hA5, hr5, ho5, hd5⟩
        have HA5 := Lib.hid (show NatsRow w5 w5.heap.size A t.after ∧ t.after.length ≤ c ∧ ∀ ad, A = some ad → w.heap.size ≤ ad.block from ⟨hN5, hc5, fun ad e => Nat.le_trans HS3.out.od.size (hA5 ad e)⟩)
        have HS5 := Lib.hid (HS3.out.only hr5 ho5)
        have HP5 := Lib.hid (HP.out.next hlt hd5)
        refine HKK.out _ _ ⟨trivial, ?_⟩
        clear HKK KK hN5 hc5 hA5 hr5 ho5 hd5
        (try simp only [Act.put, List.setIfInBounds_toArray, List.set_cons_zero, List.set_cons_succ])
        refine two_rdyH (i := 1) (j := 4) (by kernel_rfl) (wpOp_step rfl (fun KK hKK => ?_)) (wpOp_step rfl (fun KK hKK => ?_))
        · have HKK := Lib.hid hKK
          clear hKK
          have y1 := cellH HS5.out.pk 1
          simp at y1
          go_simp
          refine HKK.out _ _ ⟨trivial, ?_⟩
          clear HKK KK y1
          (try simp only [Act.put, List.setIfInBounds_toArray, List.set_cons_zero, List.set_cons_succ])
          refine one_readyH (i := 4) (by kernel_rfl) (wpOp_step rfl (fun KK hKK => ?_))
          have HKK := Lib.hid hKK
          clear hKK
          go_simp
          refine HKK.out _ _ ⟨trivial, ?_⟩
          clear HKK KK
          (try simp only [Act.put, List.setIfInBounds_toArray, List.set_cons_zero, List.set_cons_succ])
          refine one_readyH (i := 5) (by kernel_rfl) (wpOp_step rfl (fun KK hKK => ?_))
          have HKK := Lib.hid hKK
          clear hKK
          have hsz1 : Pk + 1 ≤ (w5.alloc (.cells (tkA t A c) 65)).heap.size := by have := (Array.getElem?_eq_some_iff.1 HS5.out.pk).1; simp; omega
          have hl8 : l.length ≤ 8 := by have := HP.out.cb; omega
          refine step_append_own _ rfl (.tmp 12) (.tmp 15) 22 rfl (Pk + 1) 65 i0 _ 7 80 Tryz.underlying22 hi hz0 hz1 hz2 rfl (by omega) v l.length ((l.zip vs).flatMap tkQ) rfl (HS5.out.ow.alloc _) ⟨w5.heap.size, 0, none⟩ 1 1 (tkC t (.slice A t.after.length c)) rfl rfl (cells_new w5 (tkC t (.slice A t.after.length c)) _) (fun u hu => by
            simp only [tkC, List.mem_cons, List.not_mem_nil, or_false] at hu
            rcases hu with rfl | rfl | rfl | rfl | rfl | rfl | rfl <;> rfl) (by unfold maxLen; omega) (by omega) hsz1 ?_
          intro v7 W7 hown7 hg7 _
          obtain ⟨hn7, hS7⟩ := HS5.out.put HA5.out.1 HA5.out.2.1 HA5.out.2.2 hown7 hg7
          obtain ⟨B7, d7, rfl⟩ : ∃ B d, v7 = .slice B (l.length + 1) d := by
            rcases hown7.2 with ⟨_, h0⟩ | ⟨g, cap, cur, e, _⟩
            · omega
            · exact ⟨_, _, e⟩
          have z1 := cellH hn7 1
          have zf := freeH hn7 1
          simp at z1
          have HS7 := Lib.hid hS7
          refine HKK.out _ _ ⟨trivial, ?_⟩
          clear HKK KK hown7 hg7 hn7 hS7 hsz1
          (try simp only [Act.put, List.setIfInBounds_toArray])
          refine one_readyH (i := 6) (by kernel_rfl) (wpOp_step rfl (fun KK hKK => ?_))
          have HKK := Lib.hid hKK
          clear hKK
          go_simp
          refine HKK.out _ _ ⟨trivial, ?_⟩
          clear HKK KK
          (try simp only [Act.put, List.setIfInBounds_toArray, List.set_cons_zero, List.set_cons_succ])
          refine one_readyH (i := 7) (by kernel_rfl) (wpOp_step rfl (fun KK hKK => ?_))
          have HKK := Lib.hid hKK
          clear hKK
          go_simp
          refine HKK.out _ _ ⟨trivial, ?_⟩
          clear HKK KK z1 zf
          refine wpAnyH_done (by kernel_rfl) ?_ _
          refine NoPanic.normal ?_
          go_wp2_with fail
          go_roundw
          case rel => exact ⟨_, S5, q5, l ++ [t], _, by simp, by simp; omega, HP5, HS7⟩
          case measure => simp [intOf]; omega
        · have HKK := Lib.hid hKK
          clear hKK
          go_simp
          refine HKK.out _ _ ⟨trivial, ?_⟩
          clear HKK KK
          (try simp only [Act.put, List.setIfInBounds_toArray, List.set_cons_zero, List.set_cons_succ])
          have HS6 := Lib.hid (HS5.out.later ((Below.refl _ _).alloc (Nat.le_refl _) (.cells (tkA t A c) 65)))
          refine one_readyH (i := 1) (by kernel_rfl) (wpOp_step rfl (fun KK hKK => ?_))
          have HKK := Lib.hid hKK
          clear hKK
          have y1 := cellH HS6.out.pk 1
          simp at y1
          go_simp
          refine HKK.out _ _ ⟨trivial, ?_⟩
          clear HKK KK y1
          (try simp only [Act.put, List.setIfInBounds_toArray, List.set_cons_zero, List.set_cons_succ])
          refine one_readyH (i := 5) (by kernel_rfl) (wpOp_step rfl (fun KK hKK => ?_))
          have HKK := Lib.hid hKK
          clear hKK
          have hsz1 : Pk + 1 ≤ (w5.alloc (.cells (tkA t A c) 65)).heap.size := by have := (Array.getElem?_eq_some_iff.1 HS5.out.pk).1; simp; omega
          have hl8 : l.length ≤ 8 := by have := HP.out.cb; omega
          refine step_append_own _ rfl (.tmp 12) (.tmp 15) 22 rfl (Pk + 1) 65 i0 _ 7 80 Tryz.underlying22 hi hz0 hz1 hz2 rfl (by omega) v l.length ((l.zip vs).flatMap tkQ) rfl (HS5.out.ow.alloc _) ⟨w5.heap.size, 0, none⟩ 1 1 (tkC t (.slice A t.after.length c)) rfl rfl (cells_new w5 (tkC t (.slice A t.after.length c)) _) (fun u hu => by
            simp only [tkC, List.mem_cons, List.not_mem_nil, or_false] at hu
            rcases hu with rfl | rfl | rfl | rfl | rfl | rfl | rfl <;> rfl) (by unfold maxLen; omega) (by omega) hsz1 ?_
          intro v7 W7 hown7 hg7 _
          obtain ⟨hn7, hS7⟩ := HS5.out.put HA5.out.1 HA5.out.2.1 HA5.out.2.2 hown7 hg7
          obtain ⟨B7, d7, rfl⟩ : ∃ B d, v7 = .slice B (l.length + 1) d := by
            rcases hown7.2 with ⟨_, h0⟩ | ⟨g, cap, cur, e, _⟩
            · omega
            · exact ⟨_, _, e⟩
          have z1 := cellH hn7 1
          have zf := freeH hn7 1
          simp at z1
          have HS7 := Lib.hid hS7
          refine HKK.out _ _ ⟨trivial, ?_⟩
          clear HKK KK hown7 hg7 hn7 hS7 hsz1
          (try simp only [Act.put, List.setIfInBounds_toArray])
          refine one_readyH (i := 6) (by kernel_rfl) (wpOp_step rfl (fun KK hKK => ?_))
          have HKK := Lib.hid hKK
          clear hKK
          go_simp
          refine HKK.out _ _ ⟨trivial, ?_⟩
          clear HKK KK
          (try simp only [Act.put, List.setIfInBounds_toArray, List.set_cons_zero, List.set_cons_succ])
          refine one_readyH (i := 7) (by kernel_rfl) (wpOp_step rfl (fun KK hKK => ?_))
          have HKK := Lib.hid hKK
          clear hKK
          go_simp
          refine HKK.out _ _ ⟨trivial, ?_⟩
          clear HKK KK z1 zf
          refine wpAnyH_done (by kernel_rfl) ?_ _
          refine NoPanic.normal ?_
          go_wp2_with fail
          go_roundw
          case rel => exact ⟨_, S5, q5, l ++ [t], _, by simp, by simp; omega, HP5, HS7⟩
          case measure => simp [intOf]; omega
    · have hlen : (l.length : Int) = cnt := by omega
      have HT := Lib.hid (HP.out.last hlen)
      have z0 := cellH HS.out.pk 0
      have z1 := cellH HS.out.pk 1
      have y0 := cellH HS.out.rs 0
      have y1 := cellH HS.out.rs 1
      have yf := freeH HS.out.rs
      simp at z0 z1 y0 y1
      obtain ⟨A, c, hvA, _⟩ := HS.out.done HT.out (.int .i64 0) (.int .i64 0)
      subst hvA
      obtain ⟨A', c', hvA, hout⟩ := HS.out.done HT.out (.string nm) (.slice A l.length c)
      injection hvA with e1 _ e2
      subst e1 e2
      have HO := Lib.hid hout
      have HRS := Lib.hid HS.out.rs
      clear hout
      go_wp2_with fail
      exact bodyPost_ret (results_cell_row (fn := Tryz.f47) rfl _ _ w.heap.size 24 #[.string nm, .slice A l.length c] (0, 0) _ rfl (by
        rw [row_set (row_set HRS.out)]
        rfl) Tryz.underlying24 rfl info_pipe3) rfl HO.out
end
end Go.Proofs.YtfjaibaidpbppaaGreatDoor
