/-
  pipeName: the name that the first line tells; the program's pipeline, up to its loop. No conditions. pipeline: the one of a text's lines. Conditions: what the library's variables hold; lines and words up to a thousand.
-/
import Derived.Test.YtcfnmjhelhdobaaGreatDoorMdL
import Derived.Test.YtcfnmjhelhdobaaGreatDoorManW
namespace Go.Proofs.YtcfnmjhelhdobaaGreatDoor
open Go.RowKit
open Go.Maps (Keyed IsMap has)

/-- What the first line tells. -/
def pipeR (l : List Wd) : FaP ⊕ ByteArray :=
  if (l.getD 0 default).t ≠ sPipe then .inl ⟨17, (l.getD 0 default).p⟩
  else if l.length ≠ 2 then .inl ⟨3, (l.getD 0 default).p⟩
  else if nameP (l.getD 1 default).t = false then .inl ⟨15, (l.getD 1 default).p⟩
  else .inr (l.getD 1 default).t
def PnO (w : World) (r : FaP ⊕ ByteArray) (e : Ending) (w' : World) : Prop := Below w.heap.size w w' ∧ match r with
  | .inl f => ∃ F, e = .returned (.tuple #[.string ⟨#[]⟩, fltV F]) ∧ FaultAt w' F f.p f.e
  | .inr n => e = .returned (.tuple #[.string n, .nilIface])
section
variable {w : World} {A : Option Addr} {c : Nat}
set_option maxHeartbeats 2000000 in
set_option maxRecDepth 100000 in
theorem pipename_is {a : Wd} {ws : List Wd} (hA : WdsAt w A (a :: ws)) (r : FaP ⊕ ByteArray) (hr : r = pipeR (a :: ws)) : Calls Tryz.prog 37 #[.slice A (a :: ws).length c] w (PnO w r) := by
  obtain ⟨ad, rfl, a0, a1⟩ := hA.at_ (i := 0) (x := a) rfl
  have b1 := (Below.refl w.heap.size w).alloc (Nat.le_refl _) (.cells #[.string a.t, .int .i64 a.p] 81)
  have HX := Lib.hid (made_at w (.cells #[.string a.t, .int .i64 a.p] 81))
  have HB := Lib.hid b1
  have HA := Lib.hid (hA.later b1)
  have hz : ad.add (0 * 2) = ad := by simp [Addr.add]
  rw [hz] at a0 a1
  have hadb : ad.block < w.heap.size := World.block_lt_of_cell? _ _ a0
  have HR := Lib.hid hr
  have hpos : (0 : Int) < ((a :: ws).length : Int) := by simp
  obtain ⟨n, hn⟩ : ∃ n, n = (a :: ws).length := ⟨_, rfl⟩
  rw [← hn] at hpos ⊢
  have HN := Lib.hid hn
  clear hA b1 hr hz hn
  go_enter Tryz.func37, Tryz.ntmps37
  go_upto_region 2 with fail
  generalize hW1 : (w.alloc (.cells #[.string a.t, .int .i64 a.p] 81)) = W1 at *
  clear hW1 a0 a1 hadb
  have y0 := cellH HX.out 0
  have y1 := cellH HX.out 1
  simp at y0 y1
  by_cases hp : a.t = sPipe
  rotate_left
  · have q1 : (a.t.toList == [112, 105, 112, 101]) = false := (ba_list (t := sPipe) rfl).trans (decide_eq_false hp)
    have HF := Lib.hid (fun W : World => mfault_is W a.p 17)
    have HV := Lib.hid (show r = .inl ⟨17, a.p⟩ by rw [HR.out, pipeR]; exact if_pos hp)
    clear hp
    go_wp2_with fail
    refine (HF.out _).mono ?_
    rintro e w3 ⟨F, rfl, hF, _, hb3⟩
    have HB3 := Lib.hid (below_step HB.out hb3)
    have HFA := Lib.hid hF
    clear hF hb3
    unfold fltV
    go_wp2_with fail
    refine bodyPost_ret (results_two rfl _ _ _) rfl ⟨HB3.out, ?_⟩
    rw [HV.out]
    exact ⟨F, rfl, HFA.out⟩
  · have q1 : (a.t.toList == [112, 105, 112, 101]) = true := (ba_list (t := sPipe) rfl).trans (decide_eq_true hp)
    have HP := Lib.hid hp
    clear hp
    by_cases hl : n = 2
    rotate_left
    · have q2 : ((n : Int) != 2) = true := by rw [bne_iff_ne]; omega
      have HF := Lib.hid (fun W : World => mfault_is W a.p 3)
      have HV := Lib.hid (show r = .inl ⟨3, a.p⟩ by
        rw [HR.out, pipeR]
        exact (if_neg (fun h => h HP.out)).trans (if_pos (by rw [← HN.out]; exact hl)))
      clear hl
      go_wp2_with fail
      refine (HF.out _).mono ?_
      rintro e w3 ⟨F, rfl, hF, _, hb3⟩
      have HB3 := Lib.hid (below_step HB.out hb3)
      have HFA := Lib.hid hF
      clear hF hb3
      unfold fltV
      go_wp2_with fail
      refine bodyPost_ret (results_two rfl _ _ _) rfl ⟨HB3.out, ?_⟩
      rw [HV.out]
      exact ⟨F, rfl, HFA.out⟩
    · have q2 : ((n : Int) != 2) = false := by rw [bne_eq_false_iff_eq]; omega
      obtain ⟨b, rfl⟩ : ∃ b, ws = [b] := by
        have h := HN.out
        rw [hl, List.length_cons] at h
        exact List.length_eq_one_iff.1 (by omega)
      have hl1 : (1 : Int) < (n : Int) := by omega
      obtain ⟨bt, bp⟩ := b
      obtain ⟨ad', e, b0, b1⟩ := HA.out.at_ (i := 1) (x := ⟨bt, bp⟩) rfl
      obtain rfl : ad = ad' := by injection e
      simp only [Addr.add] at b0 b1
      have b0 : W1.cell? ⟨ad.block, ad.off + 2, none⟩ = some (.string bt) := b0
      have b1 : W1.cell? ⟨ad.block, ad.off + 2 + 1, none⟩ = some (.int .i64 bp) := b1
      have b2 := b1
      simp only [Nat.add_assoc, Nat.reduceAdd] at b2
      have HNM := Lib.hid (fun W : World => name_is W bt bp)
      have HRL := Lib.hid (show r = if nameP bt = false then .inl ⟨15, bp⟩ else .inr bt by
        rw [HR.out, pipeR]
        exact (if_neg (fun h => h HP.out)).trans (if_neg (by simp)))
      obtain ⟨nb, hnb⟩ : ∃ nb, nb = nameP bt := ⟨_, rfl⟩
      rw [← hnb] at HNM HRL
      clear hnb hl e
      go_wp2_with fail
      cases nb with
      | false =>
        refine (show Calls Tryz.prog 52 #[wdV bt bp] W1 (OneOut W1 none (.string ⟨#[]⟩) 15 bp) from HNM.out W1).mono ?_
        rintro e w3 ⟨hb3, F, rfl, hF⟩
        have HB3 := Lib.hid (below_step HB.out hb3)
        have HFA := Lib.hid hF
        have HV := Lib.hid (show r = .inl ⟨15, bp⟩ from HRL.out)
        clear hb3 hF b0 b1 b2
        unfold fltV
        go_wp2_with fail
        refine bodyPost_ret (results_two rfl _ _ _) rfl ⟨HB3.out, ?_⟩
        rw [HV.out]
        exact ⟨F, rfl, HFA.out⟩
      | true =>
        refine (show Calls Tryz.prog 52 #[wdV bt bp] W1 (OneOut W1 (some (.string bt)) (.string ⟨#[]⟩) 15 bp) from HNM.out W1).mono ?_
        rintro e w3 ⟨hb3, rfl⟩
        have HB3 := Lib.hid (below_step HB.out hb3)
        have HV := Lib.hid (show r = .inr bt from HRL.out)
        clear hb3 b0 b1 b2
        go_wp2_with fail
        refine bodyPost_ret (results_two rfl _ _ _) rfl ⟨HB3.out, ?_⟩
        rw [HV.out]
        exact rfl
end
end Go.Proofs.YtcfnmjhelhdobaaGreatDoor

namespace Go.Proofs.YtcfnmjhelhdobaaGreatDoor
open Go.RowKit
open Go.Maps (Keyed IsMap has)

def pipeP (L : List (List Wd)) (n : Nat) : FaP ⊕ PiP := match L with
  | [] => .inl ⟨6, n⟩
  | l0 :: rest => match pipeR l0 with
    | .inl f => .inl f
    | .inr name => endL name n (linesP [] rest)
section
variable {w W : World} {A : Option Addr} {c : Nat}
theorem pipe_res {tmps : Array Value} {B : Nat} {x y : Value} (ht : tmps.getD 4 undef = .pointer (some ⟨B, 0, none⟩)) (h1 : W.heap[B]? = some (.cells #[x, y] 25 (0, 0))) :
    (results Tryz.f17 tmps).run Tryz.prog W = .ok (.tuple #[.agg #[x, y], tmps.getD 5 undef]) W := by
  have y1 := cellH h1 0
  have y2 := cellH h1 1
  simp at y1 y2 ht
  simp [results, Tryz.results17, go_sem, ht, y1, y2]
theorem flt_set2 {F E : Nat} {a1 e1 : Int} {n : ByteArray} {v x y : Value} (h : FaultAt W F a1 e1) (hE : W.heap[E]? = some (.cells #[x, y] 25 (0, 0))) : FaultAt (set2 W E n v) F a1 e1 :=
  (set2_other (fun e : F = E => by
    subst e
    unfold FaultAt at h
    rw [hE] at h
    injection h with h
    injection h with _ h2
    exact absurd h2 (by decide)) n v).trans h
/-- The call ends with a fault. -/
theorem pipe_exit {E F : Nat} {x y : Value} {f : FaP} {r : FaP ⊕ PiP} {a' : Act} {w : World} (hb : Below w.heap.size w W) (hE : W.heap[E]? = some (.cells #[x, y] 25 (0, 0))) (hEl : E = w.heap.size) (hF : FaultAt W F f.p f.e) (hr : r = .inl f) (ha : a'.tmps.getD 4 undef = .pointer (some ⟨E, 0, none⟩)) (h5 : a'.tmps.getD 5 undef = fltV F) (hd : a'.defers = []) :
    bodyPost Tryz.prog Tryz.f17 (PrsOut w r) .ret a' ((W.setCell ⟨E, 0, none⟩ (.string ⟨#[]⟩)).setCell ⟨E, 1, none⟩ (.slice none 0 0)) := by
  have h2 : (set2 W E ⟨#[]⟩ (.slice none 0 0)).heap[E]? = some (.cells #[.string ⟨#[]⟩, .slice none 0 0] 25 (0, 0)) := set2_row hE rfl _ _
  refine bodyPost_ret (pipe_res ha h2) hd ⟨?_, ?_⟩
  · subst hEl
    exact set2_below hb _ _
  · rw [hr]
    exact ⟨none, 0, F, by rw [h5], flt_set2 hF hE⟩
set_option maxHeartbeats 8000000 in
set_option maxRecDepth 100000 in
theorem pipeline_is {L : List (List Wd)} {n : Nat} (hV : VarL w) (hA : LnsAt w A L) (hc : L.length ≤ c) (hL : L.length ≤ 1000 ∧ ∀ l ∈ L, l ≠ [] ∧ l.length ≤ 1000 ∧ ∀ a ∈ l, a.t.size ≤ 1000 ∧ a.p ≤ 1000) (r : FaP ⊕ PiP) (hr : r = pipeP L n) :
    Calls Tryz.prog 17 #[.slice A L.length c, .int .i64 n] w (PrsOut w r) := by
  have b1 := (Below.refl w.heap.size w).alloc (Nat.le_refl _) (.cells #[.string ⟨#[]⟩, .slice none 0 0] 25)
  have HE1 := Lib.hid (made_at w (.cells #[.string ⟨#[]⟩, .slice none 0 0] 25))
  have HB1 := Lib.hid b1
  have HA1 := Lib.hid (hA.later b1)
  have HV1 := Lib.hid (hV.later b1)
  have HR := Lib.hid hr
  have HLL := Lib.hid hL
  have HC := Lib.hid hc
  clear b1 hA hV hr hL hc
  go_enter Tryz.func17, Tryz.ntmps17
  go_upto_region 1 with fail
  generalize hW1 : (w.alloc (.cells #[.string ⟨#[]⟩, .slice none 0 0] 25)) = W1 at *
  clear hW1
  cases L with
  | nil =>
    have HF := Lib.hid (fun W : World => mfault_is W n 6)
    have HV := Lib.hid (show r = .inl ⟨6, n⟩ from HR.out)
    go_wp2_with fail
    refine (HF.out _).mono ?_
    rintro e w3 ⟨F, rfl, hF, _, hb3⟩
    have HE3 := Lib.hid (later_at hb3 HE1.out)
    have HB3 := Lib.hid (below_step HB1.out hb3)
    have HFA := Lib.hid hF
    clear hF hb3
    have zf := freeH HE3.out
    have z0 := cellH HE3.out 0
    have z1 := cellH HE3.out 1
    simp at z0 z1
    unfold fltV
    go_wp2_with fail
    exact pipe_exit HB3.out HE3.out rfl HFA.out HV.out rfl rfl rfl
  | cons l0 rest =>
    obtain ⟨m, hm⟩ : ∃ m, m = (l0 :: rest).length := ⟨_, rfl⟩
    rw [← hm] at HC ⊢
    have hmi : (m : Int) = (rest.length : Int) + 1 := by rw [hm]; simp
    have hm0 : ((m : Int) == 0) = false := by rw [beq_eq_false_iff_ne]; omega
    have hmp : (0 : Int) < (m : Int) := by omega
    obtain ⟨ad, B0, c0, rfl, z, hW0⟩ := HA1.out.at_ (i := 0) (l := l0) rfl
    have hz : ad.add 0 = ad := by simp [Addr.add]
    rw [hz] at z
    obtain ⟨a, ws, rfl⟩ : ∃ a ws, l0 = a :: ws := by
      have := (HLL.out.2 l0 (by simp)).1
      cases l0 with
      | nil => exact absurd rfl this
      | cons a ws => exact ⟨a, ws, rfl⟩
    obtain ⟨rp, hrp⟩ : ∃ rp, rp = pipeR (a :: ws) := ⟨_, rfl⟩
    have HPN := Lib.hid (pipename_is (c := c0) hW0 rp hrp)
    have HRP := Lib.hid (show r = _ from HR.out)
    have HM := Lib.hid hmi
    have HRPP := Lib.hid hrp
    obtain ⟨nl, hnl⟩ : ∃ nl, nl = (a :: ws).length := ⟨_, rfl⟩
    rw [← hnl] at HPN z
    clear hm hz hW0 hrp hnl hmi
    go_wp2_with fail
    refine HPN.out.mono ?_
    cases rp with
    | inl f =>
      rintro e w3 ⟨hb3, F, rfl, hF⟩
      have HE3 := Lib.hid (later_at hb3 HE1.out)
      have HB3 := Lib.hid (below_step HB1.out hb3)
      have HFA := Lib.hid hF
      have HV := Lib.hid (show r = .inl f by rw [HRP.out, pipeP, ← HRPP.out])
      clear hF hb3 z
      have zf := freeH HE3.out
      have z0 := cellH HE3.out 0
      have z1 := cellH HE3.out 1
      simp at z0 z1
      unfold fltV
      go_wp2_with fail
      exact pipe_exit HB3.out HE3.out rfl HFA.out HV.out rfl rfl rfl
    | inr nm =>
      rintro e w3 ⟨hb3, rfl⟩
      have HE3 := Lib.hid (later_at hb3 HE1.out)
      have HB3 := Lib.hid (below_step HB1.out hb3)
      have HV3 := Lib.hid (HV1.out.later hb3)
      have HA3 := Lib.hid (HA1.out.later hb3)
      have HV := Lib.hid (show r = endL nm n (linesP [] rest) by rw [HRP.out, pipeP, ← HRPP.out])
      have hmm := @run_makeMap Tryz.prog
      have b4 := (Below.refl w3.heap.size w3).alloc (Nat.le_refl _) (.map #[] 0)
      have b5 := (Below.refl (w3.alloc (.map #[] 0)).heap.size (w3.alloc (.map #[] 0))).alloc (Nat.le_refl _) (.cells #[.slice none 0 0, .map (some w3.heap.size), .slice none 0 0] 88)
      have m5 := made_at (w3.alloc (.map #[] 0)) (.cells #[.slice none 0 0, .map (some w3.heap.size), .slice none 0 0] 88)
      rw [World.size_alloc] at m5
      have HR5 := Lib.hid (show RdM w3 (w3.heap.size + 1) w3.heap.size [] (.slice none 0 0) (.slice none 0 0) [] ((w3.alloc (.map #[] 0)).alloc (.cells #[.slice none 0 0, .map (some w3.heap.size), .slice none 0 0] 88)) from
        ⟨m5, World.ownsRow_nil _ _ _ _, (MapIs.made w3).block (fun es cl hp => b5.block w3.heap.size (Array.getElem?_eq_some_iff.1 hp).1), World.ownsRow_nil _ _ _ _, fun i x hx => by simp at hx, below_step b4 b5, ⟨by omega, Nat.le_refl _⟩⟩)
      have HEL := Lib.hid (show w.heap.size < w3.heap.size from (Array.getElem?_eq_some_iff.1 HE3.out).1)
      clear b4 b5 m5 hb3 z HE1 HB1 HV1 HA1 HPN
      go_upto_region 7 with fail
      generalize hW5 : ((w3.alloc (.map #[] 0)).alloc (.cells #[.slice none 0 0, .map (some w3.heap.size), .slice none 0 0] 88)) = W5 at *
      clear hW5 hmm
      go_cut [33, 34, 35] (fun s l i wx => ∃ ad2 : Addr, s = .slice (some ad2) (m - 1) (c - 1) ∧ l = .int .i64 (m - 1 : Nat) ∧ i = .int .i64 0 ∧ wx = W5 ∧ (1 < m → ad2 = ad.add 1))
      case first =>
        have hm1 : (1 : Int) ≤ (m : Int) := by omega
        by_cases hc1 : c = 1
        · have hnn : ¬ 1 < m := by have := HC.out; omega
          subst hc1
          go_wp2_with fail
          go_meet
          exact ⟨ad, rfl, rfl, rfl, rfl, fun h => absurd h hnn⟩
        · go_wp2_with fail
          go_meet
          exact ⟨ad.add 1, rfl, rfl, rfl, rfl, fun _ => rfl⟩
      case rest =>
      obtain ⟨ad2, rfl, rfl, rfl, hwc, had2⟩ := hcut
      have hwc := hwc.symm
      subst hwc
      have hmr : m - 1 = rest.length := by have := HM.out; omega
      rw [hmr]
      have HAD := Lib.hid (fun h : 0 < rest.length => had2 (by have := HM.out; omega))
      clear had2 hmr hm0 hmp
      go_wp2_with fail
      go_loopw [35] (fun i wr => ∃ (k : Nat) (xs : List LnP) (tv av : Value) (vs : List Value), i = .int .i64 k ∧ k ≤ rest.length ∧ Hid (xs.length = k ∧ k ≤ 8) ∧ Hid (linesP [] rest = linesP xs (rest.drop k)) ∧ Hid (∀ x ∈ xs, x.after.length ≤ 1000001 ∧ ∀ y ∈ x.after, y.t.size ≤ 8) ∧ Hid (RdM w3 (w3.heap.size + 1) w3.heap.size xs tv av vs wr)) (fun i _ => rest.length - (intOf i).toNat)
      case atStart => exact ⟨0, [], _, _, _, rfl, Nat.zero_le _, ⟨rfl, by omega⟩, rfl, fun x hx => by simp at hx, HR5⟩
      case round =>
        obtain ⟨k, xs, tv, av, vs, rfl, hk, HXL, HLP, HXS, HRD⟩ := hrel
        have HE4 := Lib.hid ((HRD.out.low.block w.heap.size HEL.out).trans HE3.out)
        have HB4 := Lib.hid (HB3.out.trans (HRD.out.low.mono (by have := HEL.out; omega)))
        by_cases hlt : k < rest.length
        · obtain ⟨l, hl⟩ : ∃ l, rest[k]? = some l := ⟨_, List.getElem?_eq_getElem hlt⟩
          obtain ⟨hlne, hll, hla⟩ := HLL.out.2 l (List.mem_cons_of_mem _ (List.mem_of_getElem? hl))
          obtain ⟨a1, r1, rfl⟩ : ∃ a1 r1, l = a1 :: r1 := by
            cases l with
            | nil => exact absurd rfl hlne
            | cons a1 r1 => exact ⟨a1, r1, rfl⟩
          obtain ⟨ad3, B1, c1, e3, hz, hW1, hcp1⟩ := HA3.out.cap (i := k + 1) (l := a1 :: r1) (by rw [List.getElem?_cons_succ]; exact hl)
          obtain rfl : ad = ad3 := by injection e3
          have hz2 : wr.cell? (ad2.add k) = some (.slice B1 (a1 :: r1).length c1) := by
            rw [HAD.out (by omega)]
            refine cell_of (by simp only [add_block]) (by simp only [add_off]; omega) ?_ ((HRD.out.low.cell (World.block_lt_of_cell? _ _ hz)).trans hz)
            have hsp := spot_none hz
            unfold Addr.add
            split
            · split
              · omega
              · rfl
            · rfl
          obtain ⟨rl, hrl⟩ : ∃ rl, rl = lineP (a1 :: r1) (xs.map (·.name)) := ⟨_, rfl⟩
          have HLI := Lib.hid (line_is_ (c := c1) HRD.out HV3.out hW1 hcp1 hll (fun y hy => by have := hla y hy; omega) (by have := HXL.out; omega) rl hrl)
          have HDL := Lib.hid (show rest.drop k = (a1 :: r1) :: rest.drop (k + 1) from drop_any hl)
          have HRL := Lib.hid hrl
          have HAL := Lib.hid (fun x (hx : lineP (a1 :: r1) (xs.map (·.name)) = .inr x) => show x.after.length ≤ 1000001 ∧ ∀ y ∈ x.after, y.t.size ≤ 8 from ⟨by have := (line_after (N := 1000) (fun b hb => (hla b hb).1) hx).2; omega, line_aft hx⟩)
          have hk0 : (0 : Int) ≤ (k : Int) := by omega
          have hkl : (k : Int) < (rest.length : Int) := by omega
          have hxk := HXL.out
          have HLT := Lib.hid hlt
          obtain ⟨nl1, hnl1⟩ : ∃ nl1, nl1 = (a1 :: r1).length := ⟨_, rfl⟩
          rw [← hnl1] at HLI hz2
          clear hl hlne hll hla e3 hz hW1 hcp1 hrl hnl1
          go_wp2_with fail
          refine HLI.out.mono ?_
          cases rl with
          | inl f =>
            rintro e w4 ⟨hb4, F, rfl, hF⟩
            have HE5 := Lib.hid ((hb4.block w.heap.size HEL.out).trans HE3.out)
            have HB5 := Lib.hid (HB3.out.trans (hb4.mono (by have := HEL.out; omega)))
            have HFA := Lib.hid hF
            have HVF := Lib.hid (show r = .inl f by
              rw [HV.out, HLP.out, HDL.out, lines_bad HRL.out.symm]
              rfl)
            clear hF hb4 hz2
            have zf := freeH HE5.out
            have z0 := cellH HE5.out 0
            have z1 := cellH HE5.out 1
            simp at z0 z1
            unfold fltV
            go_wp2_with fail
            exact pipe_exit HB5.out HE5.out rfl HFA.out HVF.out rfl rfl rfl
          | inr x =>
            rintro e w4 ⟨hb4, rfl, tv2, av2, vs2, hR4⟩
            have HR4 := Lib.hid hR4
            have h8 := (line_inv HRL.out.symm).2.2
            rw [List.length_map] at h8
            have HXL2 := Lib.hid (show (xs ++ [x]).length = k + 1 ∧ k + 1 ≤ 8 by rw [List.length_append, List.length_singleton]; omega)
            have HLP2 := Lib.hid (show linesP [] rest = linesP (xs ++ [x]) (rest.drop (k + 1)) by rw [HLP.out, HDL.out, lines_good HRL.out.symm])
            have HXS2 := Lib.hid (show ∀ z ∈ xs ++ [x], z.after.length ≤ 1000001 ∧ ∀ y ∈ z.after, y.t.size ≤ 8 by
              intro z hz
              rcases List.mem_append.1 hz with hz | hz
              · exact HXS.out z hz
              · obtain rfl := List.mem_singleton.1 hz
                exact HAL.out z HRL.out.symm)
            clear hb4 hz2 hR4 h8
            have hk8 := HXL2.out.2
            go_wp2_with fail
            go_roundw
            case rel => exact ⟨k + 1, _, tv2, av2, vs2, by go_num, HLT.out, HXL2, HLP2, HXS2, HR4⟩
            case measure => have := HLT.out; simp [intOf]; omega
        · have hke : k = rest.length := by omega
          have HLF := Lib.hid (show linesP [] rest = .inr xs by rw [HLP.out, hke, List.drop_length, linesP])
          have x0 := cellH HRD.out.row 0
          simp at x0
          obtain ⟨Bt, dt, rfl⟩ := own_slc HRD.out.tasks
          by_cases hx0 : xs = []
          · subst hx0
            have HF := Lib.hid (fun W : World => mfault_is W n 6)
            have HVF := Lib.hid (show r = .inl ⟨6, n⟩ by rw [HV.out, HLF.out]; rfl)
            subst hke
            go_wp2_with fail
            refine (HF.out _).mono ?_
            rintro e w4 ⟨F, rfl, hF, _, hb4⟩
            have HE5 := Lib.hid (later_at hb4 HE4.out)
            have HB5 := Lib.hid (below_step HB4.out hb4)
            have HFA := Lib.hid hF
            clear hF hb4 x0
            have zf := freeH HE5.out
            have z0 := cellH HE5.out 0
            have z1 := cellH HE5.out 1
            simp at z0 z1
            unfold fltV
            go_wp2_with fail
            exact pipe_exit HB5.out HE5.out rfl HFA.out HVF.out rfl rfl rfl
          · have hxp : 0 < xs.length := List.length_pos_iff.2 hx0
            have hxe : ((xs.length : Int) == 0) = false := by rw [beq_eq_false_iff_ne]; omega
            obtain ⟨rk, hrk⟩ : ∃ rk, rk = tasksP (xs.map (·.name)) [] xs := ⟨_, rfl⟩
            have HLK := Lib.hid (link_is HRD.out hx0 (by have := HXL.out; omega) HXS.out rk hrk)
            have HVF := Lib.hid (show r = endT nm rk by rw [HV.out, HLF.out, endL_some hx0, hrk])
            have HXP := Lib.hid hxp
            subst hke
            clear hx0 hrk hxp
            go_wp2_with fail
            refine HLK.out.mono ?_
            cases rk with
            | inl f =>
              rintro e w4 ⟨hb4, F, rfl, hF⟩
              have HE5 := Lib.hid ((hb4.block w.heap.size HEL.out).trans HE3.out)
              have HB5 := Lib.hid (HB3.out.trans (hb4.mono (by have := HEL.out; omega)))
              have HFA := Lib.hid hF
              have HVG := Lib.hid (show r = .inl f from HVF.out)
              clear hF hb4 x0
              have zf := freeH HE5.out
              have z0 := cellH HE5.out 0
              have z1 := cellH HE5.out 1
              simp at z0 z1
              unfold fltV
              go_wp2_with fail
              exact pipe_exit HB5.out HE5.out rfl HFA.out HVG.out rfl rfl rfl
            | inr ts =>
              rintro e w4 ⟨hb4, rfl, htl, g, cap, lb, vl, hLK⟩
              have HE5 := Lib.hid ((hb4.block w.heap.size HEL.out).trans HE3.out)
              have HB5 := Lib.hid (HB3.out.trans (hb4.mono (by have := HEL.out; omega)))
              have HVG := Lib.hid (show r = .inr ⟨nm, ts⟩ from HVF.out)
              have HK := Lib.hid hLK
              have HTL := Lib.hid htl
              clear hb4 x0 hLK htl
              have x0 := cellH HK.out.row 0
              have zf := freeH HE5.out
              have z0 := cellH HE5.out 0
              have z1 := cellH HE5.out 1
              simp at x0 z0 z1
              go_wp2_with fail
              have h2 : (set2 w4 w.heap.size nm (.slice (some ⟨g, 0, none⟩) xs.length cap)).heap[w.heap.size]? = some (.cells #[.string nm, .slice (some ⟨g, 0, none⟩) xs.length cap] 25 (0, 0)) := set2_row HE5.out rfl _ _
              refine bodyPost_ret (pipe_res rfl h2) rfl ⟨set2_below HB5.out _ _, ?_⟩
              rw [HVG.out]
              refine ⟨some ⟨g, 0, none⟩, cap, by rw [← HTL.out]; rfl, HK.out.tksE (fun b cs t ht hb => set2_other (fun e => ?_) _ _)⟩
              subst e
              rw [HE5.out] at hb
              injection hb with hb
              injection hb with _ h3
              exact ht h3.symm
end
end Go.Proofs.YtcfnmjhelhdobaaGreatDoor
