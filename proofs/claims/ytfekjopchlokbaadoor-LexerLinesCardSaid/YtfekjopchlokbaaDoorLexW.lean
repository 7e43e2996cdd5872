/-
  The program's lexer is what the law asks. Conditions: what the library's variables hold.
-/
import Derived.Test.YtfekjopchlokbaaDoorLexM
import Derived.Test.YtfekjopchlokbaaDoorLexO
import Derived.Test.YtfekjopchlokbaaDoorLexH
namespace Go.Proofs.YtfekjopchlokbaaDoor
open Go.RowKit

theorem wds_own {w : World} {base : Nat} {A : Option Addr} {c : Nat} {l : List Wd} (h : w.ownsRow base 35 2 (.slice A l.length c) l.length (wdCells l)) : WdsAt w A l := by
  rcases h.2 with ⟨e, hn⟩ | ⟨q, cap, cur, e, _, hq, _, _, _, ht⟩
  · intro hl
    omega
  · injection e with e1 _ _
    subst e1
    exact wds_of hq ht
theorem yes_out {w : World} {ps : List Wd} {e : Ending} {w' : World} (h : NmsPost w ps e w') (hall : ∀ x ∈ ps, nameP x.t = true) : NmsOut w (.inl ps) e w' := by
  obtain ⟨hb, ⟨_, v, he, ho⟩ | ⟨k, F, hk, _, hn, _⟩⟩ := h
  · obtain ⟨A, c, rfl⟩ := own_slc ho
    exact ⟨hb, A, c, he, wds_own ho⟩
  · have := hall (ps.getD k ⟨.empty, 0⟩) (by
      rw [List.getD_eq_getElem?_getD, List.getElem?_eq_getElem hk]
      exact List.getElem_mem hk)
    rw [hn] at this
    cases this
theorem no_out {w : World} {ps : List Wd} {e : Ending} {w' : World} (h : NmsPost w ps e w') (k : Nat) (hk : k < ps.length) (hall : AllNm ps k) (hn : nameP (ps.getD k ⟨.empty, 0⟩).t = false) : NmsOut w (.inr (ps.getD k ⟨.empty, 0⟩).p) e w' := by
  obtain ⟨hb, ⟨ha, _⟩ | ⟨j, F, hj, ha, hnj, he, hF⟩⟩ := h
  · have := ha k hk
    rw [hn] at this
    cases this
  · have : j = k := by
      rcases Nat.lt_trichotomy j k with h' | h' | h'
      · have := hall j h'
        rw [hnj] at this
        cases this
      · exact h'
      · have := ha k h'
        rw [hn] at this
        cases this
    subst this
    exact ⟨hb, none, 0, F, he, hF⟩
theorem lex_ok : LexOk where
  at_ := fun hV h => at_is hV.e h
  nilA := fun _ => at_none
  lines := fun {w} s _ hs => lines_of w s hs _ rfl
  num7 := fun {w} hV => by
    have h := number_is hV.v ⟨#[55]⟩ 3 0 9 (by decide)
    rw [show numP ⟨#[55]⟩ 0 9 = some 7 by decide] at h
    exact h
  num07 := fun {w} hV => by
    have h := number_is hV.v ⟨#[48, 55]⟩ 3 0 9 (by decide)
    rw [show numP ⟨#[48, 55]⟩ 0 9 = none by decide] at h
    exact h
  nms := fun {w} _ => (names_of w ⟨#[97, 44, 98, 99]⟩ 2 (by decide) [⟨⟨#[97]⟩, 2⟩, ⟨⟨#[98, 99]⟩, 4⟩] rfl).mono fun e w' h => yes_out h (by decide)
  nmsBad := fun {w} _ => (names_of w ⟨#[97, 44, 44, 98]⟩ 2 (by decide) [⟨⟨#[97]⟩, 2⟩, ⟨⟨#[]⟩, 4⟩, ⟨⟨#[98]⟩, 5⟩] rfl).mono fun e w' h => no_out h 1 (by decide) (fun j hj => by
    obtain rfl : j = 0 := by omega
    decide) (by decide)
  lab := fun {w} _ => label_is w ⟨#[49, 58, 48, 48, 48, 102]⟩ 0 (some (1, 15)) (by decide)
  name := fun {w} _ => by
    have h := name_is w ⟨#[65]⟩ 8
    rw [show nameP ⟨#[65]⟩ = false by decide] at h
    exact h
end Go.Proofs.YtfekjopchlokbaaDoor
