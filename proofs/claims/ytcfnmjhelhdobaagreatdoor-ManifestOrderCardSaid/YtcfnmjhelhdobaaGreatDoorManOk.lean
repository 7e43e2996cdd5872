/-
  The program's Parse; what the laws ask of the program's manifests holds of it. No conditions but what the library's variables hold.
-/
import Derived.Test.YtcfnmjhelhdobaaGreatDoorMdN
import Derived.Test.YtcfnmjhelhdobaaGreatDoorMdS
import Derived.Test.YtcfnmjhelhdobaaGreatDoorLexH
namespace Go.Proofs.YtcfnmjhelhdobaaGreatDoor
open Go.RowKit
open Go.Maps (Keyed IsMap has)

theorem parse_pipe {s : ByteArray} {L : List (List Wd)} (h : lexP s = .good L) : parseP s = pipeP L s.size := by
  have hne := (lexP_some h).2
  cases L with
  | nil => exact parse_none h
  | cons l0 rest =>
    obtain ⟨a, ws, rfl⟩ : ∃ a ws, l0 = a :: ws := by
      have := hne l0 (by simp)
      cases l0 with
      | nil => exact absurd rfl this
      | cons a ws => exact ⟨a, ws, rfl⟩
    rw [pipeP, pipeR]
    by_cases hp : a.t = sPipe
    · by_cases hl : (a :: ws).length = 2
      · obtain ⟨b, rfl⟩ : ∃ b, ws = [b] := List.length_eq_one_iff.1 (by rw [List.length_cons] at hl; omega)
        by_cases hn : nameP b.t = true
        · rw [parse_go h (a := a) (b := b) rfl rfl hp rfl hn]
          simp [hp, hn]
        · have hn : nameP b.t = false := by simpa using hn
          rw [parse_15 h (a := a) (b := b) rfl rfl hp rfl hn]
          simp [hp, hn]
      · rw [parse_3 h (a := a) rfl hp hl]
        simp only [List.getD_cons_zero]
        rw [if_neg (fun e => e hp), if_pos hl]
    · rw [parse_17 h (a := a) rfl hp]
      simp only [List.getD_cons_zero]
      rw [if_pos hp]
section
variable {w W : World}
theorem parse_res {tmps : Array Value} {B : Nat} {x y : Value} (ht : tmps.getD 2 undef = .pointer (some ⟨B, 0, none⟩)) (h1 : W.heap[B]? = some (.cells #[x, y] 25 (0, 0))) :
    (results Tryz.f8 tmps).run Tryz.prog W = .ok (.tuple #[.agg #[x, y], tmps.getD 3 undef]) W := by
  have y1 := cellH h1 0
  have y2 := cellH h1 1
  simp at y1 y2 ht
  simp [results, Tryz.results8, go_sem, ht, y1, y2]
theorem parse_exit {E F : Nat} {x y : Value} {f : FaP} {r : FaP ⊕ PiP} {a' : Act} {w : World} (hb : Below w.heap.size w W) (hE : W.heap[E]? = some (.cells #[x, y] 25 (0, 0))) (hEl : E = w.heap.size) (hF : FaultAt W F f.p f.e) (hr : r = .inl f) (ha : a'.tmps.getD 2 undef = .pointer (some ⟨E, 0, none⟩)) (h5 : a'.tmps.getD 3 undef = fltV F) (hd : a'.defers = []) :
    bodyPost Tryz.prog Tryz.f8 (PrsOut w r) .ret a' ((W.setCell ⟨E, 0, none⟩ (.string ⟨#[]⟩)).setCell ⟨E, 1, none⟩ (.slice none 0 0)) := by
  have h2 : (set2 W E ⟨#[]⟩ (.slice none 0 0)).heap[E]? = some (.cells #[.string ⟨#[]⟩, .slice none 0 0] 25 (0, 0)) := set2_row hE rfl _ _
  refine bodyPost_ret (parse_res ha h2) hd ⟨?_, ?_⟩
  · subst hEl
    exact set2_below hb _ _
  · rw [hr]
    exact ⟨none, 0, F, by rw [h5], flt_set2 hF hE⟩
/-- A pipeline's tasks stay over a store into another pipeline. -/
theorem TksAt.keep2 {A : Option Addr} {ts : List TkP} {E : Nat} {n a : ByteArray} {v u : Value} (h : TksAt W A ts) (hE : W.heap[E]? = some (.cells #[.string a, u] 25 (0, 0))) (hu : ∀ k z, u ≠ .int k z) : TksAt (set2 W E n v) A ts := fun hn => by
  have no : ∀ (p : Addr) (k : IntKind) (z : Int), W.cell? p = some (.int k z) → p.block ≠ E := fun p k z hp e => by
    have hs := spot_none hp
    obtain ⟨b, o, q⟩ := p
    simp only at hs e
    subst hs e
    rw [cellH hE] at hp
    rcases o with _ | _ | o
    · simp at hp
    · simp at hp
      exact hu _ _ hp
    · simp at hp
  obtain ⟨ad, e, hc⟩ := h hn
  refine ⟨ad, e, fun i t ht => ?_⟩
  obtain ⟨B, c, h1, h2, h3⟩ := hc i t ht
  have hb := no _ _ _ (h1 2 _ rfl)
  rw [add_block] at hb
  refine ⟨B, c, fun j x hj => ?_, fun hl => ?_, h3⟩
  · rw [set2_cell (by rw [add_block]; exact hb)]
    exact h1 j x hj
  · obtain ⟨ad2, e2, hc2⟩ := h2 hl
    refine ⟨ad2, e2, fun j m hj => ?_⟩
    rw [set2_cell (no _ _ _ (hc2 j m hj))]
    exact hc2 j m hj
set_option maxHeartbeats 4000000 in
set_option maxRecDepth 100000 in
theorem mparse_is (s : ByteArray) (hV : VarL w) (r : FaP ⊕ PiP) (hr : r = parseP s) : Calls Tryz.prog 8 #[.string s] w (PrsOut w r) := by
  have b1 := (Below.refl w.heap.size w).alloc (Nat.le_refl _) (.cells #[.string ⟨#[]⟩, .slice none 0 0] 25)
  have HE1 := Lib.hid (made_at w (.cells #[.string ⟨#[]⟩, .slice none 0 0] 25))
  have HB1 := Lib.hid b1
  have HV1 := Lib.hid (hV.later b1)
  have HR := Lib.hid hr
  obtain ⟨lx, hlx⟩ : ∃ lx, lx = lexP s := ⟨_, rfl⟩
  have HLN := Lib.hid (fun W : World => lines_of W s lx hlx)
  have HLX := Lib.hid hlx
  clear b1 hV hr hlx
  go_enter Tryz.func8, Tryz.ntmps8
  go_wp2_with fail
  refine (HLN.out _).mono ?_
  cases lx with
  | bad e0 p0 =>
    rintro e w3 ⟨hb3, A, c, F, rfl, hF⟩
    have HE3 := Lib.hid (later_at hb3 HE1.out)
    have HB3 := Lib.hid (below_step HB1.out hb3)
    have HFA := Lib.hid hF
    have HV := Lib.hid (show r = .inl ⟨e0, p0⟩ by rw [HR.out]; exact parse_lex HLX.out.symm)
    clear hF hb3
    have zf := freeH HE3.out
    have z0 := cellH HE3.out 0
    have z1 := cellH HE3.out 1
    simp at z0 z1
    unfold fltV
    go_wp2_with fail
    exact parse_exit HB3.out HE3.out rfl HFA.out HV.out rfl rfl rfl
  | good L =>
    rintro e w3 ⟨hb3, A, c, rfl, hA, hc⟩
    have HE3 := Lib.hid (later_at hb3 HE1.out)
    have HB3 := Lib.hid (below_step HB1.out hb3)
    have hpp := parse_pipe HLX.out.symm
    have hLL : L.length ≤ 1000 ∧ ∀ l ∈ L, l ≠ [] ∧ l.length ≤ 1000 ∧ ∀ a ∈ l, a.t.size ≤ 1000 ∧ a.p ≤ 1000 := by
      have h6 := lexP_some HLX.out.symm
      have hk := lexP_ok HLX.out.symm
      refine ⟨by have := hk.1; omega, fun l hl => ⟨h6.2 l hl, lexP_words HLX.out.symm hl⟩⟩
    have HPI := Lib.hid (pipeline_is (c := c) (n := s.size) (HV1.out.later hb3) hA hc hLL r (by rw [HR.out, hpp]))
    clear hb3 hA hc hpp hLL HLN
    go_wp2_with fail
    refine HPI.out.mono ?_
    cases r with
    | inl f =>
      rintro e w4 ⟨hb4, A4, c4, F, rfl, hF⟩
      have b5 := (Below.refl w4.heap.size w4).alloc (Nat.le_refl _) (.cells #[.string ⟨#[]⟩, .slice A4 (0 : Nat) c4] 25)
      have HE5 := Lib.hid (later_at b5 (later_at hb4 HE3.out))
      have HB5 := Lib.hid (below_step (below_step HB3.out hb4) b5)
      have HFA := Lib.hid (later_at b5 hF)
      clear hF hb4 b5
      have zf := freeH HE5.out
      have z0 := cellH HE5.out 0
      have z1 := cellH HE5.out 1
      simp at z0 z1
      unfold fltV
      go_wp2_with fail
      exact parse_exit HB5.out HE5.out rfl HFA.out rfl rfl rfl rfl
    | inr p =>
      rintro e w4 ⟨hb4, A4, c4, rfl, hT⟩
      have b5 := (Below.refl w4.heap.size w4).alloc (Nat.le_refl _) (.cells #[.string p.name, .slice A4 p.tasks.length c4] 25)
      have HM5 := Lib.hid (made_at w4 (.cells #[.string p.name, .slice A4 p.tasks.length c4] 25))
      have HE5 := Lib.hid (later_at b5 (later_at hb4 HE3.out))
      have HB5 := Lib.hid (below_step (below_step HB3.out hb4) b5)
      have HT5 := Lib.hid (hT.later b5)
      clear hT hb4 b5
      have zf := freeH HE5.out
      have z0 := cellH HE5.out 0
      have z1 := cellH HE5.out 1
      have y0 := cellH HM5.out 0
      have y1 := cellH HM5.out 1
      simp at z0 z1 y0 y1
      go_wp2_with fail
      have h2 : (set2 (w4.alloc (.cells #[.string p.name, .slice A4 p.tasks.length c4] 25)) w.heap.size p.name (.slice A4 p.tasks.length c4)).heap[w.heap.size]? = some (.cells #[.string p.name, .slice A4 p.tasks.length c4] 25 (0, 0)) := set2_row HE5.out rfl _ _
      refine bodyPost_ret (parse_res rfl h2) rfl ⟨set2_below HB5.out _ _, A4, c4, rfl, ?_⟩
      exact HT5.out.keep2 HE5.out (fun k z e => by cases e)
end
theorem man_ok : ManOk where
  at_ := fun hV h => at_is hV.e h
  parse := fun s hV _ => mparse_is s hV _ rfl
  print := fun hV hA hp => mprint_is hV hA hp
  printNo := fun _ => mprint_no
  right := fun _ hA hp => mright_is hA hp
  same := fun _ hA hB hp hq => same_is_ hA hB hp.small.1 hp.small.2 hq.small.2
  sameNo := fun {w A c p} _ hA hp => by
    have h := same_is_ (w := w) (n := p.name) (m := ⟨#[]⟩) (ts := p.tasks) (us := []) (c := c) (d := 0) hA (noTks w none) hp.small.1 hp.small.2 (by simp)
    have e : sameP ⟨p.name, p.tasks⟩ ⟨⟨#[]⟩, []⟩ = false := by
      rw [sameP, decide_eq_false (fun e => by
        have := hp.name.1
        have e : p.name = ⟨#[]⟩ := e
        rw [e] at this
        exact absurd this (by decide)), Bool.false_and]
    rw [e] at h
    exact h
end Go.Proofs.YtcfnmjhelhdobaaGreatDoor
