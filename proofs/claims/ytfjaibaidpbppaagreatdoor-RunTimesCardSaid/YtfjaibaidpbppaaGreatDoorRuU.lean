/-
  The program's run: Read. Conditions: what the library's variables hold, a text's length. The program's run: Read. Conditions: what the library's variables hold, a text's length.
-/
import Derived.Test.YtfjaibaidpbppaaGreatDoorRuS
namespace Go.Proofs.YtfjaibaidpbppaaGreatDoor
open Go.RowKit

/-! Places, in plain words. -/
structure PlFits (p : PlP) : Prop where
  tr : rightT p.tr = true
  out : p.out.size ≤ 32
  ris : RisL p.yes
/-- A place is read. -/
structure PlR (S : ByteArray) (b : Bool) (p : PlP) (S' : ByteArray) (b' : Bool) : Prop where
  yes : b' = false → b = false ∧ bl S = plB p ++ bl S' ∧ PlFits p
  hit : ∀ (q : PlP) (Y : List UInt8), b = false → PlFits q → bl S = plB q ++ Y → b' = false ∧ p = q ∧ bl S' = Y
  size : S'.size ≤ S.size
theorem sixX_tri (t : TrP) (T : ByteArray) : bl (sixX t ++ T) = triB t ++ bl T := by
  rw [sixX_bl]
  unfold triB
  simp only [List.append_assoc]
theorem plR_of {S S1 S2 S3 : ByteArray} {b b1 b2 b3 : Bool} {t : TrP} {s : ByteArray} {ys : List Int} {n : Bool} (h1 : ReadAny S b t b1 S1) (h2 : RdT S1 b1 32 s S2 b2) (h3 : VoAny S2 b2 ys n b3 S3) : PlR S b ⟨t, s, ys, n⟩ S3 b3 := by
  refine ⟨fun hb => ?_, fun q Y hb hq hS => ?_, Nat.le_trans h3.size (Nat.le_trans h2.size h1.2.2.2)⟩
  · obtain ⟨c2, c3, c4⟩ := h3.yes hb
    obtain ⟨d1, d2, d3⟩ := h2.yes c2
    obtain ⟨e1, e2, e3⟩ := h1.2.1 d1
    refine ⟨e1, ?_, ⟨e2, by show s.size ≤ 32; omega, rightV_iff.1 c3⟩⟩
    rw [e3, sixX_tri, d3, c4, bl_append, bl_votX]
    unfold plB
    simp only [List.append_assoc, List.flatMap_append, List.flatMap_cons, List.flatMap_nil, List.append_nil]
    rfl
  · unfold plB at hS
    rw [List.append_assoc] at hS
    have hS1 : S = sixX q.tr ++ ofL (numT (q.out.size : Int) ++ (bl q.out ++ (numT (q.yes.length : Int) ++ (q.yes.flatMap numT ++ numT (bitI q.no)))) ++ Y) := by
      apply bl_inj
      rw [sixX_tri, bl_ofL]
      exact hS
    have hb1 := h1.2.2.1 _ _ hb hq.tr hS1
    obtain ⟨_, _, e3⟩ := h1.2.1 hb1
    obtain ⟨f1, f2⟩ := sixX_front (e3.symm.trans hS1)
    have hS2 := congrArg bl f2
    rw [bl_ofL, List.append_assoc, List.append_assoc] at hS2
    have ho := hq.out
    obtain ⟨g1, g2, g3⟩ := h2.hit q.out _ hb1 (by omega) (by omega) hS2
    have hS3 : S2 = votX q.yes q.no ++ ofL Y := by
      apply bl_inj
      rw [g3, bl_append, bl_votX, bl_ofL]
      simp only [List.append_assoc, List.flatMap_append, List.flatMap_cons, List.flatMap_nil, List.append_nil]
      rfl
    have hb3 := h3.full _ _ _ g1 (rightV_iff.2 hq.ris) hS3
    obtain ⟨_, _, k3⟩ := h3.yes hb3
    obtain ⟨k4, k5, k6⟩ := votX_front (k3.symm.trans hS3)
    refine ⟨hb3, ?_, by rw [k6, bl_ofL]⟩
    rw [f1, g2, k4, k5]
/-- While places are read. -/
structure PsR (S : ByteArray) (b : Bool) (l : List PlP) (S' : ByteArray) (b' : Bool) : Prop where
  yes : b' = false → b = false ∧ bl S = l.flatMap plB ++ bl S' ∧ ∀ p ∈ l, PlFits p
  hit : ∀ (qs : List PlP) (Y : List UInt8), b = false → (∀ q ∈ qs, PlFits q) → l.length ≤ qs.length → bl S = qs.flatMap plB ++ Y → b' = false ∧ l = qs.take l.length ∧ bl S' = (qs.drop l.length).flatMap plB ++ Y
  size : S'.size ≤ S.size
theorem PsR.start (S : ByteArray) (b : Bool) : PsR S b [] S b := ⟨fun h => ⟨h, rfl, fun p hp => by cases hp⟩, fun qs Y hb _ _ hS => ⟨hb, rfl, by rw [hS]; rfl⟩, Nat.le_refl _⟩
theorem PsR.next {S S' S2 : ByteArray} {b b' b2 : Bool} {l : List PlP} {p : PlP} (h : PsR S b l S' b') (hd : PlR S' b' p S2 b2) : PsR S b (l ++ [p]) S2 b2 := by
  refine ⟨fun hb => ?_, fun qs Y hb hq hl hS => ?_, Nat.le_trans hd.size h.size⟩
  · obtain ⟨g1, g2, g3⟩ := hd.yes hb
    obtain ⟨e1, e2, e3⟩ := h.yes g1
    refine ⟨e1, ?_, fun q hq => ?_⟩
    · rw [e2, List.flatMap_append, List.flatMap_cons, List.flatMap_nil, List.append_nil, g2, List.append_assoc]
    · rcases List.mem_append.1 hq with h1 | h1
      · exact e3 q h1
      · obtain rfl := List.mem_singleton.1 h1
        exact g3
  · rw [List.length_append, List.length_singleton] at hl
    obtain ⟨e1, e2, e3⟩ := h.hit qs Y hb hq (by omega) hS
    have hlt : l.length < qs.length := by omega
    have hx := List.getElem?_eq_getElem hlt
    rw [List.drop_eq_getElem_cons hlt, List.flatMap_cons, List.append_assoc] at e3
    obtain ⟨c1, c2, c3⟩ := hd.hit _ _ e1 (hq _ (List.getElem_mem hlt)) e3
    refine ⟨c1, ?_, ?_⟩
    · rw [List.length_append, List.length_singleton, List.take_add_one, hx, ← e2, c2]
      rfl
    · rw [List.length_append, List.length_singleton]
      exact c3
theorem MayP.fits {n : ByteArray} {ts : List TkP} (h : MayP n ts) : ∀ u ∈ ts, TkFits u := fun u hu => by
  have ho := h.right.task u hu
  have h8 : ts.length ≤ 8 := h.right.few.2
  have hl := few_below _ _ ho.aft.1 ho.aft.2
  have hl2 : u.after.length ≤ ts.length := hl
  exact ⟨ho.name.2.1, by omega, fun a ha => by have h1 := ho.aft.1 a ha; have h2 : a < ts.length := h1; omega, ho.retry, ho.time, ho.need, ho.lab⟩
theorem RunRight.fits {z : RunP} (h : RunRight z) : ∀ p ∈ z.ps, PlFits p := fun p hp => ⟨h.tr p hp, h.out p hp, h.ris p hp⟩
/-- A pipeline of which no run may be made. -/
theorem rdRun_not {S S1 S2 : ByteArray} {b1 : Bool} {nm : ByteArray} {ts : List TkP} (hp : PiR S false nm ts S1 b1) (hm : ¬ MayP nm ts) : RdRun S none S2 true := by
  refine ⟨fun _ => rfl, (fun z h => by cases h), fun z T hz hS => ?_⟩
  have hS2 := congrArg bl hS
  rw [bl_append, bl_textR] at hS2
  unfold runB at hS2
  simp only [List.append_assoc] at hS2
  have hf := hz.may.right.few
  obtain ⟨_, e2, e3, _⟩ := hp.hit z.pn z.ts _ rfl hz.may.right.name.2.1 hf.1 hf.2 hz.may.fits hS2
  exact absurd hz.may (by rw [← e2, ← e3]; exact hm)
theorem bitI_is {v : Int} (h0 : 0 ≤ v) (h1 : v ≤ 1) : bitI (v == 1) = v := by
  unfold bitI
  by_cases h : v = 1
  · subst h; rfl
  · rw [if_neg (by rw [beq_iff_eq]; exact h)]; omega
theorem bit_back {b : Bool} {v : Int} (h : v = bitI b) : (v == 1) = b := by
  rw [h]
  cases b <;> rfl
/-- All is read. -/
theorem rdRun_all {S S1 S2 S3 : ByteArray} {b1 b2 b3 : Bool} {nm : ByteArray} {ts : List TkP} {l : List PlP} {v : Int} (hp : PiR S false nm ts S1 b1) (hm : MayP nm ts) (hl : PsR S1 b1 l S2 b2) (hll : l.length = ts.length) (hd : Rd1 S2 b2 0 1 v S3 b3) :
    (b3 = true → RdRun S none S3 true) ∧ (b3 = false → RdRun S (some ⟨nm, ts, l, v == 1⟩) S3 false) := by
  have hhit : ∀ z T, RunRight z → S = textR z ++ T → b3 = false ∧ (⟨nm, ts, l, v == 1⟩ : RunP) = z ∧ S3 = T := fun z T hz hS => by
    have hS2 := congrArg bl hS
    rw [bl_append, bl_textR] at hS2
    unfold runB at hS2
    simp only [List.append_assoc] at hS2
    have hf := hz.may.right.few
    obtain ⟨e1, e2, e3, e4⟩ := hp.hit z.pn z.ts _ rfl hz.may.right.name.2.1 hf.1 hf.2 hz.may.fits hS2
    have hzl : l.length = z.ps.length := by rw [hll, e3, hz.len]
    obtain ⟨f1, f2, f3⟩ := hl.hit z.ps _ e1 hz.fits (by omega) e4
    rw [hzl, List.take_length] at f2
    rw [hzl, List.drop_length, List.flatMap_nil, List.nil_append] at f3
    obtain ⟨g1, g2, g3⟩ := hd.hit f1 (by unfold bitI; split <;> omega) (by unfold bitI; split <;> omega) (by unfold bitI; split <;> omega) (by unfold bitI; split <;> omega) f3
    refine ⟨g1, ?_, bl_inj g3⟩
    rw [e2, e3, f2, bit_back g2]
  refine ⟨fun hb => ⟨fun _ => rfl, (fun z h => by cases h), fun z T hz hS => ?_⟩, fun hb => ⟨(fun h => by cases h), fun z hz => ?_, fun z T hz hS => ?_⟩⟩
  · have := (hhit z T hz hS).1
    rw [hb] at this
    cases this
  · injection hz with hz
    subst hz
    obtain ⟨g1, g2, g3, g4⟩ := hd.yes hb
    obtain ⟨f1, f2, f3⟩ := hl.yes g1
    obtain ⟨_, e2⟩ := hp.yes f1
    refine ⟨rfl, ?_, hm, hll, fun p hp => (f3 p hp).tr, fun p hp => (f3 p hp).out, fun p hp => (f3 p hp).ris⟩
    apply bl_inj
    rw [bl_append, bl_textR, e2, f2, bl_num g4]
    unfold runB
    simp only [List.append_assoc, bitI_is g2 g3]
  · obtain ⟨_, e2, e3⟩ := hhit z T hz hS
    exact ⟨by rw [e2], e3⟩
/-! In memory. -/
/-- While places are read: the reader, the run so far. -/
structure RlS (w : World) (Q Rn Sb g c d : Nat) (S : ByteArray) (b : Bool) (nm : ByteArray) (ts : List TkP) (l : List PlP) (o : Bool) (W : World) : Prop where
  od : Only1 Q w W
  rd : RdAt W Q S b
  lo : Q < w.heap.size
  v0 : VarsAt w
  r0 : ∃ S0 b0, RdAt w Q S0 b0
  len : l.length ≤ ts.length
  run : ∃ X vs, RnC W X Rn Sb g c d ⟨nm, ts, l ++ List.replicate (ts.length - l.length) noPl, o⟩ vs ∧ ∀ i, i = Rn ∨ i = Sb ∨ i ∈ X → w.heap.size ≤ i
section
variable {w W V : World} {Q Rn Sb g c d : Nat} {S S2 nm : ByteArray} {b b2 : Bool} {ts : List TkP} {l : List PlP} {o : Bool}
theorem RlS.only (h : RlS w Q Rn Sb g c d S b nm ts l o W) (hr : RdAt V Q S2 b2) (ho : Only1 Q W V) : RlS w Q Rn Sb g c d S2 b2 nm ts l o V := by
  obtain ⟨X, vs, h1, h2⟩ := h.run
  have hq := h.lo
  refine ⟨h.od.trans ho, hr, hq, h.v0, h.r0, h.len, X, vs, h1.same (fun i hi => ho.block i ?_ ?_), h2⟩
  · rcases hi with rfl | rfl | hi
    · exact h1.rlow
    · exact h1.steps.low
    · exact h1.xlow i hi
  · have := h2 i hi
    omega
theorem RlS.ve (h : RlS w Q Rn Sb g c d S b nm ts l o W) : VarsAt W := by
  obtain ⟨_, _, hr⟩ := h.r0
  exact h.v0.rd hr h.od
theorem RlS.later (h : RlS w Q Rn Sb g c d S b nm ts l o W) (hb : Below W.heap.size W V) : RlS w Q Rn Sb g c d S b nm ts l o V := h.only (h.rd.below hb) (.of_below hb)
/-- A step's nine cells are put. -/
def set9 (W : World) (B o : Nat) (p : PlP) (v : Value) : World := (((set6 W B o p.tr).setCell ⟨B, o + 6, none⟩ (.string p.out)).setCell ⟨B, o + 7, none⟩ v).setCell ⟨B, o + 8, none⟩ (.bool p.no)
theorem set9_other {B o i : Nat} {p : PlP} {v : Value} (h : i ≠ B) : (set9 W B o p v).heap[i]? = W.heap[i]? := by
  unfold set9
  rw [set_other h, set_other h, set_other h, set6_other h]
theorem rep_set {l : List PlP} {n : Nat} (h : l.length < n) (p : PlP) : (l ++ List.replicate (n - l.length) noPl).set l.length p = (l ++ [p]) ++ List.replicate (n - (l ++ [p]).length) noPl := by
  rw [List.length_append, List.length_singleton, show n - l.length = (n - (l.length + 1)) + 1 by omega, List.replicate_succ, List.set_append_right _ _ (Nat.le_refl _), Nat.sub_self]
  simp
theorem RlS.next {p : PlP} {Y : Option Addr} {e : Nat} (h : RlS w Q Rn Sb g c d S b nm ts l o W) (hl : l.length < ts.length) (hI : IntsC W Y e p.yes) (hY : ∀ ad, Y = some ad → w.heap.size ≤ ad.block ∧ ad.block ≠ Rn ∧ ad.block ≠ Sb) :
    RlS w Q Rn Sb g c d S b nm ts (l ++ [p]) o (set9 W Sb (l.length * 9) p (.slice Y p.yes.length e)) := by
  obtain ⟨X, vs, h1, h2⟩ := h.run
  have hq := h.lo
  have hSb := h2 Sb (.inr (.inl rfl))
  have hlen : (l ++ List.replicate (ts.length - l.length) noPl).length = ts.length := by rw [List.length_append, List.length_replicate]; omega
  have hp0 : (l ++ List.replicate (ts.length - l.length) noPl)[l.length]? = some noPl := by
    rw [List.getElem?_append_right (Nat.le_refl _), Nat.sub_self, List.getElem?_replicate, if_pos (by omega)]
  have a1 := h1.setTry hp0 p.tr
  have a2 := a1.setOut (put_get hp0) p.out
  rw [put_put] at a2
  have hI2 : IntsC ((set6 W Sb (l.length * 9) p.tr).setCell ⟨Sb, l.length * 9 + 6, none⟩ (.string p.out)) Y e p.yes := hI.sameX (fun _ ad ea => by rw [set_other (hY ad ea).2.2, set6_other (hY ad ea).2.2])
  have a3 := a2.setVotes (put_get hp0) (Y := Y) (e := e) (ys := p.yes) p.no hI2 (fun ad ea => (hY ad ea).2)
  rw [put_put] at a3
  have hps : (RunP.put ⟨nm, ts, l ++ List.replicate (ts.length - l.length) noPl, o⟩ l.length ⟨p.tr, p.out, p.yes, p.no⟩) = ⟨nm, ts, (l ++ [p]) ++ List.replicate (ts.length - (l ++ [p]).length) noPl, o⟩ := by
    unfold RunP.put
    rw [← rep_set hl p]
  have a4 : RnC (set9 W Sb (l.length * 9) p (.slice Y p.yes.length e)) (addX Y p.yes X) Rn Sb g c d ⟨nm, ts, (l ++ [p]) ++ List.replicate (ts.length - (l ++ [p]).length) noPl, o⟩ (vs.set l.length (.slice Y p.yes.length e)) := by
    rw [← hps]
    exact a3
  have hod : Only1 Q w (set9 W Sb (l.length * 9) p (.slice Y p.yes.length e)) := by
    unfold set9 set6
    exact ((((((((h.od.setNew hSb _).setNew hSb _).setNew hSb _).setNew hSb _).setNew hSb _).setNew hSb _).setNew hSb _).setNew hSb _).setNew hSb _
  refine ⟨hod, ?_, hq, h.v0, h.r0, by rw [List.length_append, List.length_singleton]; omega, _, _, a4, fun i hi => ?_⟩
  · show _ = _
    rw [set9_other (by omega)]
    exact h.rd
  · rcases hi with hi | hi | hi
    · exact h2 i (.inl hi)
    · exact h2 i (.inr (.inl hi))
    · rcases addX_new hi with h3 | ⟨_, ad, e1, e2⟩
      · exact h2 i (.inr (.inr h3))
      · rw [e2]; exact (hY ad e1).1
end
end Go.Proofs.YtfjaibaidpbppaaGreatDoor

namespace Go.Proofs.YtfjaibaidpbppaaGreatDoor
open Go.RowKit

section
variable {w W V : World} {Q Rn Sb g c d : Nat} {S S2 nm : ByteArray} {b b2 : Bool} {ts : List TkP} {l : List PlP} {o : Bool}
theorem RlS.steps (h : RlS w Q Rn Sb g c d S b nm ts l o W) : W.cell? ⟨Rn, 2, none⟩ = some (.slice (some ⟨Sb, 0, none⟩) ts.length d) := by
  obtain ⟨X, vs, h1, _⟩ := h.run
  obtain ⟨_, _, x2, _⟩ := h1.cells
  have hl := h.len
  rw [x2]
  show some (Value.slice _ (l ++ List.replicate (ts.length - l.length) noPl).length d) = _
  rw [List.length_append, List.length_replicate, show l.length + (ts.length - l.length) = ts.length by omega]
theorem RlS.place (h : RlS w Q Rn Sb g c d S b nm ts l o W) (hl : l.length < ts.length) : ∃ v, (∀ (j : Nat) u, (stC noPl v)[j]? = some u → W.cell? ⟨Sb, l.length * 9 + j, none⟩ = some u) ∧ ∀ i, W.frozen? ⟨Sb, i, none⟩ = false := by
  obtain ⟨X, vs, h1, _⟩ := h.run
  have hp0 : (l ++ List.replicate (ts.length - l.length) noPl)[l.length]? = some noPl := by
    rw [List.getElem?_append_right (Nat.le_refl _), Nat.sub_self, List.getElem?_replicate, if_pos (by omega)]
  obtain ⟨Y, e, _, _, _, hc⟩ := h1.step hp0
  exact ⟨_, hc, h1.free⟩
theorem RlS.above (h : RlS w Q Rn Sb g c d S b nm ts l o W) : w.heap.size ≤ Rn ∧ w.heap.size ≤ Sb ∧ Rn < W.heap.size ∧ Sb < W.heap.size := by
  obtain ⟨X, vs, h1, h2⟩ := h.run
  exact ⟨h2 _ (.inl rfl), h2 _ (.inr (.inl rfl)), h1.rlow, h1.steps.low⟩
/-- Whether it is cancelled. -/
theorem RlS.over (h : RlS w Q Rn Sb g c d S b nm ts l o W) (o' : Bool) : RlS w Q Rn Sb g c d S b nm ts l o' (W.setCell ⟨Rn, 3, none⟩ (.bool o')) ∧ W.cell? ⟨Rn, 3, none⟩ = some (.bool o) ∧ W.frozen? ⟨Rn, 3, none⟩ = false := by
  obtain ⟨X, vs, h1, h2⟩ := h.run
  have hq := h.lo
  have hR := h2 Rn (.inl rfl)
  obtain ⟨_, _, _, x3⟩ := h1.cells
  refine ⟨⟨h.od.setNew hR _, ?_, hq, h.v0, h.r0, h.len, X, vs, h1.setOver o', h2⟩, x3, freeH h1.row 3⟩
  show _ = _
  rw [set_other (by omega)]
  exact h.rd
/-- What Read answers. -/
def ReadOut (w : World) (Q : Nat) (S : ByteArray) (e : Ending) (w' : World) : Prop := ∃ r S' b, RdAt w' Q S' b ∧ Only1 Q w w' ∧ RdRun S r S' b ∧ (r = none → e = .returned (.pointer none)) ∧ ∀ z, r = some z → ∃ R M X, e = .returned (ptrV R) ∧ rnAt w' M X R z ∧ ∀ i, i ∈ M ∨ i ∈ X → w.heap.size ≤ i
theorem RlS.out (h : RlS w Q Rn Sb g c d S2 false nm ts l o W) (hl : l.length = ts.length) (hR : RdRun S (some ⟨nm, ts, l, o⟩) S2 false) : ReadOut w Q S (.returned (ptrV Rn)) W := by
  obtain ⟨X, vs, h1, h2⟩ := h.run
  rw [hl, Nat.sub_self, List.replicate_zero, List.append_nil] at h1
  refine ⟨_, S2, false, h.rd, h.od, hR, (fun h => by cases h), fun z hz => ?_⟩
  injection hz with hz
  subst hz
  refine ⟨Rn, [Rn, Sb], X, rfl, ⟨Sb, g, c, d, vs, rfl, h1⟩, fun i hi => ?_⟩
  simp only [List.mem_cons, List.not_mem_nil, or_false] at hi
  rcases hi with (hi | hi) | hi
  · exact h2 i (.inl hi)
  · exact h2 i (.inr (.inl hi))
  · exact h2 i (.inr (.inr hi))
theorem read_none (hr : RdAt W Q S2 true) (ho : Only1 Q w W) (hR : RdRun S none S2 true) : ReadOut w Q S (.returned (.pointer none)) W := ⟨none, S2, true, hr, ho, hR, fun _ => rfl, (fun z h => by cases h)⟩
/-- What stop leaves. -/
def StopOut (w : World) (Q : Nat) (e : Ending) (w' : World) : Prop := e = .returned (.tuple #[]) ∧ ∃ S', RdAt w' Q S' true ∧ Only1 Q w w'
theorem rstop_is (h : RdAt w Q S b) (hV : VarsAt w) (hS : S.size ≤ 1000000) : Calls Tryz.prog 48 #[ptrV Q] w (StopOut w Q) := by
  have HI := Lib.hid (int_step h hV hS 1 0)
  clear h hV hS
  go_enter Tryz.func48, Tryz.ntmps48
  go_wp2_with fail
  refine HI.out.mono ?_
  rintro e w1 ⟨v, S', b', rfl, hr, ho, hd⟩
  have hb : b' = true := by
    cases hb : b' with
    | true => rfl
    | false => have := hd.yes hb; omega
  rw [hb] at hr
  have HR := Lib.hid (show StopOut w Q (.returned (.tuple #[])) w1 from ⟨rfl, S', hr, ho⟩)
  clear hr ho hd hb HI
  go_wp2_with fail
  exact bodyPost_ret (v := .tuple #[]) (by simp [results, Tryz.results48, go_sem]) rfl HR.out
theorem PiR.fewT {S S' : ByteArray} {b b' : Bool} (h : PiR S b nm ts S' b') : FewT nm ts := ⟨fun t ht => by have := h.few.2.2 t ht; omega, by have := h.few.1; omega, by have := h.few.2.1; omega, fun t ht => (h.few.2.2 t ht).2.2⟩
set_option maxHeartbeats 8000000 in
set_option maxRecDepth 100000 in
theorem rread_is (hr : RdAt w Q S false) (hV : VarsAt w) (hS : S.size ≤ 1000000) : Calls Tryz.prog 19 #[ptrV Q] w (ReadOut w Q S) := by
  have HR0 := Lib.hid hr
  have HV0 := Lib.hid hV
  have HRP := Lib.hid (rpipe_read hr hV hS)
  have HSZ := Lib.hid hS
  clear hr hV hS
  go_enter Tryz.func19, Tryz.ntmps19
  go_wp2_with fail
  refine HRP.out.mono ?_
  rintro e w1 ⟨nm, ts, A, c, S1, b1, rfl, hrow, hr1, ho1, hp⟩
  have hba := (Below.refl w1.heap.size w1).alloc (Nat.le_refl _) (.cells #[.string nm, .slice A ts.length c] 24)
  have HX := Lib.hid (made_at w1 (.cells #[.string nm, .slice A ts.length c] 24))
  have HTA := Lib.hid (hrow.1.later hba)
  have HRD := Lib.hid (hr1.below hba)
  have HOD := Lib.hid (ho1.trans (.of_below hba))
  have HP := Lib.hid hp
  have HF := Lib.hid hp.fewT
  have HW1 := Lib.hid (show w.heap.size ≤ w1.heap.size from ho1.size)
  have HROW := Lib.hid (show 1 ≤ ts.length → ∃ g X, A = some ⟨g, 0, none⟩ ∧ TksX (w1.alloc (.cells #[.string nm, .slice A ts.length c] 24)) X g ts ∧ g ∈ X ∧ (∀ i ∈ X, w.heap.size ≤ i ∧ i < w1.heap.size) ∧ ts.length ≤ c from fun h => by
    obtain ⟨g, X, e, h1, h2, h3, h4⟩ := hrow.2 h
    exact ⟨g, X, e, h1.same (hba.block g (h3 g h2).2) (fun i hi => hba.block i (h3 i hi).2) (fun _ hi => hi), h2, h3, h4⟩)
  have HWS := Lib.hid (show w1.heap.size < (w1.alloc (.cells #[.string nm, .slice A ts.length c] 24)).heap.size from by rw [World.size_alloc]; exact Nat.lt_succ_self _)
  clear hrow hr1 ho1 hp hba HRP
  go_upto_region 2 with fail
  generalize hW1 : (w1.alloc (.cells #[.string nm, .slice A ts.length c] 24)) = W1 at *
  clear hW1
  generalize w1.heap.size = P3 at *
  have x0 := cellH HX.out 0
  have x1 := cellH HX.out 1
  simp at x0 x1
  by_cases hm : MayP nm ts
  · have HM := Lib.hid hm
    have h8 : ts.length ≤ 8 := hm.right.few.2
    have HFT := Lib.hid (rfit_yes (c := c) HTA.out hm)
    obtain ⟨g, X, rfl, hTX, hgx, hX, hcp⟩ := HROW.out hm.right.few.1
    have HTX := Lib.hid hTX
    have HGX := Lib.hid hgx
    have HXX := Lib.hid hX
    have HCP := Lib.hid hcp
    clear hm hTX hgx hX hcp HROW
    go_wp2_with fail
    refine HFT.out.mono ?_
    rintro e w2 ⟨rfl, hb2⟩
    have HX2 := Lib.hid (later_at hb2 HX.out)
    have HTX2 := Lib.hid (HTX.out.same (V := w2) (X' := X) (hb2.block g (Nat.lt_trans (HXX.out g HGX.out).2 HWS.out)) (fun i hi => hb2.block i (Nat.lt_trans (HXX.out i hi).2 HWS.out)) (fun _ hi => hi))
    have HRD2 := Lib.hid (HRD.out.below hb2)
    have HOD2 := Lib.hid (HOD.out.trans (.of_below hb2))
    have HWS2 := Lib.hid (Nat.lt_of_lt_of_le HWS.out hb2.size)
    clear hb2 x0 x1 HX HTX HRD HOD HFT HTA HWS
    have hmk := fun W => run_steps ts.length (by omega) W
    go_upto_region 5 with fail
    refine wp_region_noPanic ?_
    refine wp_region_held_drew (S := fun V => V.heap[P3]? = some (.cells #[.string nm, .slice (some ⟨g, 0, none⟩) ts.length c] 24 (0, 0))) (by kernel_rfl) (by exact HX2.out) (fun hHeld => ?_)
    refine take_yes 0 13 (v := ?_) rfl rfl (by kernel_rfl) (by kernel_rfl) (by kernel_rfl) noPanic_any (by rfl) hHeld ?_ ?_
    rotate_left
    · intro wx hSw; (try dsimp only at hSw); have y0 := cellH hSw 0; have y1 := cellH hSw 1; simp at y0 y1; go_simp <;> with_reducible rfl
    simp only [Act.put, List.setIfInBounds_toArray, List.set_cons_zero, List.set_cons_succ]
    refine take_yes 1 14 (v := ?_) rfl rfl (by kernel_rfl) (by kernel_rfl) (by kernel_rfl) noPanic_any (by rfl) hHeld ?_ ?_
    rotate_left
    · intro wx hSw; (try dsimp only at hSw); go_simp <;> with_reducible rfl
    simp only [Act.put, List.setIfInBounds_toArray, List.set_cons_zero, List.set_cons_succ]
    refine take_yes 2 15 (v := ?_) rfl rfl (by kernel_rfl) (by kernel_rfl) (by kernel_rfl) noPanic_any (by rfl) hHeld ?_ ?_
    rotate_left
    · intro wx hSw; (try dsimp only at hSw); have y1 := cellH hSw 1; simp at y1; go_simp <;> with_reducible rfl
    simp only [Act.put, List.setIfInBounds_toArray, List.set_cons_zero, List.set_cons_succ]
    refine take_yes 3 16 (v := ?_) rfl rfl (by kernel_rfl) (by kernel_rfl) (by kernel_rfl) noPanic_any (by rfl) hHeld ?_ ?_
    rotate_left
    · intro wx hSw; (try dsimp only at hSw); go_simp <;> with_reducible rfl
    simp only [Act.put, List.setIfInBounds_toArray, List.set_cons_zero, List.set_cons_succ]
    have hbd : Below w2.heap.size w2 w2.drew := (Below.refl _ _).drew
    have HTX3 := Lib.hid (HTX2.out.same (V := w2.drew) (X' := X) (hbd.block g (Nat.lt_trans (HXX.out g HGX.out).2 HWS2.out)) (fun i hi => hbd.block i (Nat.lt_trans (HXX.out i hi).2 HWS2.out)) (fun _ hi => hi))
    have HRD3 := Lib.hid (HRD2.out.below hbd)
    have HOD3 := Lib.hid (HOD2.out.trans (.of_below hbd))
    have HWS3 := Lib.hid (Nat.lt_of_lt_of_le HWS2.out hbd.size)
    generalize w2.drew = W3 at *
    clear hbd HTX2 HRD2 HOD2 HWS2 HX2
    have hbb := (Below.refl W3.heap.size W3).alloc (Nat.le_refl _) (.cells (madeCells z9 (ts.length * 9)) 77)
    have HST := Lib.hid (StAt.made W3 ts.length)
    have HHB := Lib.hid hbb
    clear hbb
    refine one_readyH (i := 4) (by kernel_rfl) (wpOp_step rfl (fun KK hKK => ?_))
    have HKK := Lib.hid hKK
    clear hKK
    go_simp
    refine HKK.out _ _ ⟨later_at HHB.out hHeld, ?_⟩
    clear HKK KK
    (try simp only [Act.put, List.setIfInBounds_toArray, List.set_cons_zero, List.set_cons_succ])
    have hHeld := later_at HHB.out hHeld
    have HTX4 := Lib.hid (HTX3.out.same (V := W3.alloc (.cells (madeCells z9 (ts.length * 9)) 77)) (X' := X) (HHB.out.block g (Nat.lt_trans (HXX.out g HGX.out).2 HWS3.out)) (fun i hi => HHB.out.block i (Nat.lt_trans (HXX.out i hi).2 HWS3.out)) (fun _ hi => hi))
    have HRD4 := Lib.hid (HRD3.out.below HHB.out)
    have HOD4 := Lib.hid (HOD3.out.trans (.of_below HHB.out))
    have HWS4 := Lib.hid (Nat.lt_of_lt_of_le HWS3.out HHB.out.size)
    have HSB := Lib.hid (show w.heap.size ≤ W3.heap.size ∧ W3.heap.size ∉ X from ⟨HOD3.out.size, fun h => by have := (HXX.out _ h).2; have := HWS3.out; omega⟩)
    clear HHB HTX3 HRD3 HOD3 HWS3
    generalize (W3.alloc (.cells (madeCells z9 (ts.length * 9)) 77)) = W4 at *
    generalize W3.heap.size = Sb at *
    have hbr := (Below.refl W4.heap.size W4).alloc (Nat.le_refl _) (.cells #[.string nm, .slice (some ⟨g, 0, none⟩) ts.length c, .slice (some ⟨Sb, 0, none⟩) ts.length ts.length, .bool false] 70)
    have HRL := Lib.hid (show RlS w Q W4.heap.size Sb g c ts.length S1 b1 nm ts [] false (W4.alloc (.cells #[.string nm, .slice (some ⟨g, 0, none⟩) ts.length c, .slice (some ⟨Sb, 0, none⟩) ts.length ts.length, .bool false] 70)) from by
      have h := RnC.made (nm := nm) (o := false) (d := ts.length) HTX4.out (fun i hi => Nat.lt_trans (HXX.out i hi).2 HWS4.out) HGX.out HST.out HSB.out.2 (by simp) ⟨HCP.out, by simp⟩ no_yes
      simp only [List.length_replicate] at h
      refine ⟨HOD4.out.trans (.of_below hbr), HRD4.out.below hbr, HR0.out.low, HV0.out, ⟨_, _, HR0.out⟩, Nat.zero_le _, X, _, by simpa using h, fun i hi => ?_⟩
      rcases hi with hi | hi | hi
      · rw [hi]; exact HOD4.out.size
      · rw [hi]; exact HSB.out.1
      · exact (HXX.out i hi).1)
    have HBR := Lib.hid hbr
    clear hbr HTX4 HRD4 HOD4 HWS4 HSB HST HXX HGX HCP HR0 HV0
    refine one_readyH (i := 5) (by kernel_rfl) (wpOp_step rfl (fun KK hKK => ?_))
    have HKK := Lib.hid hKK
    clear hKK
    go_simp
    refine HKK.out _ _ ⟨hHeld, ?_⟩
    clear HKK KK
    (try simp only [Act.put, List.setIfInBounds_toArray, List.set_cons_zero, List.set_cons_succ])
    refine one_readyH (i := 6) (by kernel_rfl) (wpOp_step rfl (fun KK hKK => ?_))
    have HKK := Lib.hid hKK
    clear hKK
    go_simp
    refine HKK.out _ _ ⟨later_at HBR.out hHeld, ?_⟩
    clear HKK KK
    (try simp only [Act.put, List.setIfInBounds_toArray, List.set_cons_zero, List.set_cons_succ])
    have hHeld := later_at HBR.out hHeld
    refine one_readyH (i := 7) (by kernel_rfl) (wpOp_step rfl (fun KK hKK => ?_))
    have HKK := Lib.hid hKK
    clear hKK
    go_simp
    refine HKK.out _ _ ⟨hHeld, ?_⟩
    clear HKK KK
    (try simp only [Act.put, List.setIfInBounds_toArray, List.set_cons_zero, List.set_cons_succ])
    refine wpAnyH_done (by kernel_rfl) ?_ _
    refine NoPanic.normal ?_
    clear hHeld HBR hmk
    generalize W4.alloc _ = W5 at *
    generalize W4.heap.size = Rn at *
    have y2 := HRL.out.steps
    go_upto_region 7 with fail
    clear y2
    have HZ1 := Lib.hid (show S1.size ≤ 1000000 from Nat.le_trans HP.out.size HSZ.out)
    go_loopw [25] (fun i wr => ∃ (l : List PlP) (S' : ByteArray) (q : Bool), i = .int .i64 (l.length : Int) ∧ l.length ≤ ts.length ∧ Hid (PsR S1 b1 l S' q) ∧ Hid (RlS w Q Rn Sb g c ts.length S' q nm ts l false wr)) (fun i _ => ts.length - (intOf i).toNat)
    case atStart => exact ⟨[], S1, b1, rfl, Nat.zero_le _, Lib.hid (PsR.start S1 b1), HRL⟩
    case round =>
      obtain ⟨l, S', q, rfl, hk, HPS, HS⟩ := hrel
      clear HRL
      by_cases hlt : l.length < ts.length
      · have hk0 : (0 : Int) ≤ (l.length : Int) := by omega
        have hkl : (l.length : Int) < (ts.length : Int) := by omega
        go_upto_region 9 with fail
        have x2 := HS.out.steps
        refine wp_region_noPanic ?_
        refine wp_region_held_drew (S := fun V => V.cell? ⟨Rn, 2, none⟩ = some (.slice (some ⟨Sb, 0, none⟩) ts.length ts.length)) (by kernel_rfl) (by exact x2) (fun hHeld => ?_)
        refine take_yes 0 28 (v := ?_) rfl rfl (by kernel_rfl) (by kernel_rfl) (by kernel_rfl) noPanic_any (by rfl) hHeld ?_ ?_
        rotate_left
        · intro wx hSw; (try dsimp only at hSw); go_simp <;> with_reducible rfl
        simp only [Act.put, List.setIfInBounds_toArray, List.set_cons_zero, List.set_cons_succ]
        refine take_yes 1 29 (v := ?_) rfl rfl (by kernel_rfl) (by kernel_rfl) (by kernel_rfl) noPanic_any (by rfl) hHeld ?_ ?_
        rotate_left
        · intro wx hSw; (try dsimp only at hSw); go_simp <;> with_reducible rfl
        simp only [Act.put, List.setIfInBounds_toArray, List.set_cons_zero, List.set_cons_succ]
        refine take_yes 2 30 (v := ?_) rfl rfl (by kernel_rfl) (by kernel_rfl) (by kernel_rfl) noPanic_any (by rfl) hHeld ?_ ?_
        rotate_left
        · intro wx hSw; (try dsimp only at hSw); go_simp <;> with_reducible rfl
        simp only [Act.put, List.setIfInBounds_toArray, List.set_cons_zero, List.set_cons_succ]
        refine take_yes 3 31 (v := ?_) rfl rfl (by kernel_rfl) (by kernel_rfl) (by kernel_rfl) noPanic_any (by rfl) hHeld ?_ ?_
        rotate_left
        · intro wx hSw; (try dsimp only at hSw); have y0 := hSw; go_simp <;> with_reducible rfl
        simp only [Act.put, List.setIfInBounds_toArray, List.set_cons_zero, List.set_cons_succ]
        refine take_yes 4 32 (v := ?_) rfl rfl (by kernel_rfl) (by kernel_rfl) (by kernel_rfl) noPanic_any (by rfl) hHeld ?_ ?_
        rotate_left
        · intro wx hSw; (try dsimp only at hSw); go_simp <;> with_reducible rfl
        simp only [Act.put, List.setIfInBounds_toArray, List.set_cons_zero, List.set_cons_succ]
        refine take_yes 5 33 (v := ?_) rfl rfl (by kernel_rfl) (by kernel_rfl) (by kernel_rfl) noPanic_any (by rfl) hHeld ?_ ?_
        rotate_left
        · intro wx hSw; (try dsimp only at hSw); go_simp <;> with_reducible rfl
        simp only [Act.put, List.setIfInBounds_toArray, List.set_cons_zero, List.set_cons_succ]
        refine take_yes 7 35 (v := ?_) rfl rfl (by kernel_rfl) (by kernel_rfl) (by kernel_rfl) noPanic_any (by rfl) hHeld ?_ ?_
        rotate_left
        · intro wx hSw; (try dsimp only at hSw); go_simp <;> with_reducible rfl
        simp only [Act.put, List.setIfInBounds_toArray, List.set_cons_zero, List.set_cons_succ]
        refine take_yes 9 37 (v := ?_) rfl rfl (by kernel_rfl) (by kernel_rfl) (by kernel_rfl) noPanic_any (by rfl) hHeld ?_ ?_
        rotate_left
        · intro wx hSw; (try dsimp only at hSw); go_simp <;> with_reducible rfl
        simp only [Act.put, List.setIfInBounds_toArray, List.set_cons_zero, List.set_cons_succ]
        have HS3 := Lib.hid (HS.out.later (Below.refl _ _).drew)
        generalize wr.drew = W3 at *
        clear HS x2 hHeld
        refine one_readyH (i := 6) (by kernel_rfl) (wpOp_step rfl (fun KK hKK => ?_))
        have HKK := Lib.hid hKK
        clear hKK
        go_simp
        refine (lread_any HS3.out.rd HS3.out.ve (Nat.le_trans HPS.out.size HZ1.out)).mono ?_
        rintro e W4 ⟨t, q4, S4, rfl, hr4, ho4, hd4⟩
        have HS4 := Lib.hid (HS3.out.only hr4 ho4)
        have HD4 := Lib.hid hd4
        have HZ4 := Lib.hid (Nat.le_trans hd4.2.2.2 (Nat.le_trans HPS.out.size HZ1.out))
        clear hr4 ho4 hd4
        refine HKK.out _ _ ⟨HS4.out.steps, ?_⟩
        clear HKK KK
        (try simp only [Act.put, List.setIfInBounds_toArray, List.set_cons_zero, List.set_cons_succ])
        refine one_readyH (i := 8) (by kernel_rfl) (wpOp_step rfl (fun KK hKK => ?_))
        have HKK := Lib.hid hKK
        clear hKK
        go_simp
        refine (text_stepR HS4.out.rd HS4.out.ve HZ4.out 32).mono ?_
        rintro e W5 ⟨s, S5, q5, rfl, hr5, ho5, hd5⟩
        have HS5 := Lib.hid (HS4.out.only hr5 ho5)
        have HD5 := Lib.hid hd5
        have HZ5 := Lib.hid (Nat.le_trans hd5.size HZ4.out)
        clear hr5 ho5 hd5
        refine HKK.out _ _ ⟨HS5.out.steps, ?_⟩
        clear HKK KK
        (try simp only [Act.put, List.setIfInBounds_toArray, List.set_cons_zero, List.set_cons_succ])
        refine one_readyH (i := 10) (by kernel_rfl) (wpOp_step rfl (fun KK hKK => ?_))
        have HKK := Lib.hid hKK
        clear hKK
        go_simp
        refine (gread_any HS5.out.rd HS5.out.ve HZ5.out).mono ?_
        rintro e W6 ⟨Y, d6, ys, n6, q6, S6, rfl, hI6, hr6, ho6, hd6, hY6⟩
        have HS6 := Lib.hid (HS5.out.only hr6 ho6)
        have HP6 := Lib.hid (HPS.out.next (plR_of HD4.out HD5.out hd6))
        have hab := HS5.out.above
        have HS9 := Lib.hid (HS6.out.next (p := ⟨t, s, ys, n6⟩) hlt hI6 (fun ad e => by have := hY6 ad e; omega))
        clear hr6 ho6 hd6 hI6 hY6 hab
        refine HKK.out _ _ ⟨HS6.out.steps, ?_⟩
        clear HKK KK
        (try simp only [Act.put, List.setIfInBounds_toArray, List.set_cons_zero, List.set_cons_succ])
        refine one_readyH (i := 11) (by kernel_rfl) (wpOp_step rfl (fun KK hKK => ?_))
        have HKK := Lib.hid hKK
        clear hKK
        go_simp
        refine HKK.out _ _ ⟨HS6.out.steps, ?_⟩
        clear HKK KK
        (try simp only [Act.put, List.setIfInBounds_toArray, List.set_cons_zero, List.set_cons_succ])
        refine one_readyH (i := 12) (by kernel_rfl) (wpOp_step rfl (fun KK hKK => ?_))
        have HKK := Lib.hid hKK
        clear hKK
        go_simp
        refine HKK.out _ _ ⟨HS6.out.steps, ?_⟩
        clear HKK KK
        (try simp only [Act.put, List.setIfInBounds_toArray, List.set_cons_zero, List.set_cons_succ])
        refine one_readyH (i := 13) (by kernel_rfl) (wpOp_step rfl (fun KK hKK => ?_))
        have HKK := Lib.hid hKK
        clear hKK
        obtain ⟨v0, hpc, zf⟩ := HS6.out.place hlt
        have p0 : W6.cell? ⟨Sb, l.length * 9, none⟩ = some (.int .i64 0) := hpc 0 _ rfl
        have p1 := hpc 1 _ rfl
        have p2 := hpc 2 _ rfl
        have p3 := hpc 3 _ rfl
        have p4 := hpc 4 _ rfl
        have p5 := hpc 5 _ rfl
        have p6 := hpc 6 _ rfl
        have p7 := hpc 7 _ rfl
        have p8 := hpc 8 _ rfl
        clear hpc
        go_simp
        refine HKK.out _ _ ⟨HS9.out.steps, ?_⟩
        clear HKK KK
        clear p0 p1 p2 p3 p4 p5 p6 p7 p8 zf
        refine wpAnyH_done (by kernel_rfl) ?_ _
        refine NoPanic.normal ?_
        go_wp2_with fail
        go_roundw
        case rel => exact ⟨l ++ [⟨t, s, ys, n6⟩], S6, q6, by simp, by simp; omega, HP6, HS9⟩
        case measure => simp [intOf]; omega
      · have hll : l.length = ts.length := by omega
        have hlk : ¬ (l.length : Int) < (ts.length : Int) := by omega
        go_wp2_with fail
        refine (int_step HS.out.rd HS.out.ve (Nat.le_trans HPS.out.size HZ1.out) 0 1).mono ?_
        rintro e w7 ⟨v, S7, q7, rfl, hr7, ho7, hd7⟩
        have HS7 := Lib.hid (HS.out.only hr7 ho7)
        have HA7 := Lib.hid (rdRun_all HP.out HM.out HPS.out hll hd7)
        clear hr7 ho7 hd7 HS
        obtain ⟨ov, hov⟩ : ∃ ov, ov = (v == 1) := ⟨_, rfl⟩
        have n1 : (v == 1) = ov := hov.symm
        rw [n1] at HA7
        obtain ⟨hS8, z3, zf⟩ := HS7.out.over ov
        have HS8 := Lib.hid hS8
        clear hS8 hov
        go_wp2_with fail
        refine (rd_ok HS8.out.rd).mono ?_
        rintro e w9 ⟨rfl, hb9⟩
        have HS9 := Lib.hid (HS8.out.later hb9)
        clear hb9 HS8 z3 zf
        cases q7 with
        | true =>
          have HO := Lib.hid (read_none HS9.out.rd HS9.out.od (HA7.out.1 (by first | rfl | trivial)))
          go_wp2_with fail
          go_ret
          exact HO.out
        | false =>
          have HO := Lib.hid (HS9.out.out hll (HA7.out.2 (by first | rfl | trivial)))
          go_wp2_with fail
          go_ret
          exact HO.out
  · have HM := Lib.hid hm
    have HFT := Lib.hid (rfit_no (c := c) HTA.out HF.out hm)
    clear hm
    go_wp2_with fail
    refine HFT.out.mono ?_
    rintro e w2 ⟨rfl, hb2⟩
    have HRD2 := Lib.hid (HRD.out.below hb2)
    have HOD2 := Lib.hid (HOD.out.trans (.of_below hb2))
    have HV2 := Lib.hid (HV0.out.rd HR0.out HOD2.out)
    clear hb2 x0 x1
    go_wp2_with fail
    refine (rstop_is HRD2.out HV2.out (Nat.le_trans HP.out.size HSZ.out)).mono ?_
    rintro e w3 ⟨rfl, S3, hr3, ho3⟩
    have HO := Lib.hid (read_none hr3 (HOD2.out.trans ho3) (rdRun_not HP.out HM.out))
    clear hr3 ho3
    go_wp2_with fail
    go_ret
    exact HO.out
end
end Go.Proofs.YtfjaibaidpbppaaGreatDoor
