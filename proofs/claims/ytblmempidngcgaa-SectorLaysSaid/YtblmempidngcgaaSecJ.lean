/-
  What the laws of layer 4 call awake answers: true. The bundle of contracts holds of the program's sector.
-/
import Derived.Test.YtblmempidngcgaaSecZ
namespace Go.Proofs.Ytblmempidngcgaa
open Go.RowKit

theorem sec_ok : SecK where
  right := fun p _ w => right_is p.stamp p.gen p.no p.idx p.tot p.data w
  print := fun p h w => print_is p h.fits w
  read := fun s _ w => read_is s w

def s40 : ByteArray := ⟨#[48, 49, 50, 51, 52, 53, 54, 55, 56, 57, 48, 49, 50, 51, 52, 53, 54, 55, 56, 57, 48, 49, 50, 51, 52, 53, 54, 55, 56, 57, 48, 49, 50, 51, 52, 53, 54, 55, 56, 57]⟩
theorem s40_cnt : cntN s40.size = 2 := by rfl
theorem lay40 : ∃ d, (layL s40 7 1 2) = [printB ⟨7, 1, 2, 0, 2, d⟩, printB ⟨7, 1, 2, 1, 2, ⟨#[55, 56, 57]⟩⟩] ∧ pieceI s40 7 1 2 0 = ⟨7, 1, 2, 0, 2, d⟩ ∧ pieceI s40 7 1 2 1 = ⟨7, 1, 2, 1, 2, ⟨#[55, 56, 57]⟩⟩ := ⟨s40.extract 0 37, by
  have h0 : pieceI s40 7 1 2 0 = ⟨7, 1, 2, 0, 2, s40.extract 0 37⟩ := by rfl
  have h1 : pieceI s40 7 1 2 1 = ⟨7, 1, 2, 1, 2, ⟨#[55, 56, 57]⟩⟩ := by rfl
  refine ⟨?_, h0, h1⟩
  unfold layL
  rw [s40_cnt]
  show [printB (pieceI s40 7 1 2 0), printB (pieceI s40 7 1 2 1)] = _
  rw [h0, h1]⟩
theorem zero_none : readP (zeroB 64) = none := by
  cases h : readP (zeroB 64) with
  | none => rfl
  | some p =>
    obtain ⟨_, he, hr, _⟩ := readP_some h
    have h1 := ((rightP_iff p).1 hr).t0
    have h2 : p.tot = 0 := by rw [he]; rfl
    omega

set_option maxHeartbeats 400000 in
theorem clos1_is (b g : Nat) (l0 l1 : ByteArray) (i : Int) (h0 : 0 ≤ i) (h2 : i < 2) (W : World) (hb : W.cell? ⟨b, 0, none⟩ = some (.slice (some ⟨g, 0, none⟩) 2 2)) (hg : W.heap[g]? = some (.cells #[.string l0, .string l1] 9 (0, 0))) :
    Calls Try.prog 24 #[.int .i64 i, .pointer (some ⟨b, 0, none⟩)] W fun e W' => e = .returned (.string (if i = 0 then l0 else l1)) ∧ W = W' := by
  have g0 := cellH hg 0
  have g1 := cellH hg 1
  simp at g0 g1
  rcases (show i = 0 ∨ i = 1 by omega) with rfl | rfl
  · have hb0 : bits .and .i64 0 1 = 0 := by decide
    go_enter Try.func24, Try.ntmps24
    go_wp2_with fail
    go_ret
    exact ⟨rfl, rfl⟩
  · have hb0 : bits .and .i64 1 1 = 1 := by decide
    go_enter Try.func24, Try.ntmps24
    go_wp2_with fail
    go_ret
    exact ⟨rfl, rfl⟩
set_option maxHeartbeats 400000 in
theorem clos2_is (b g : Nat) (l0 l1 : ByteArray) (i : Int) (h0 : 0 ≤ i) (h2 : i < 2) (W : World) (hb : W.cell? ⟨b, 0, none⟩ = some (.slice (some ⟨g, 0, none⟩) 2 2)) (hg : W.heap[g]? = some (.cells #[.string l0, .string l1] 9 (0, 0))) :
    Calls Try.prog 25 #[.int .i64 i, .pointer (some ⟨b, 0, none⟩)] W fun e W' => e = .returned (.string (if i = 0 then l0 else l1)) ∧ W = W' := by
  have g0 := cellH hg 0
  have g1 := cellH hg 1
  simp at g0 g1
  rcases (show i = 0 ∨ i = 1 by omega) with rfl | rfl
  · have hb0 : bits .and .i64 0 1 = 0 := by decide
    go_enter Try.func25, Try.ntmps25
    go_wp2_with fail
    go_ret
    exact ⟨rfl, rfl⟩
  · have hb0 : bits .and .i64 1 1 = 1 := by decide
    go_enter Try.func25, Try.ntmps25
    go_wp2_with fail
    go_ret
    exact ⟨rfl, rfl⟩
theorem enters (f : FuncId) (fn : Func) (hf : Try.prog.funcs[f]? = some fn) (hn : fn.name ≠ "runtime.NumGoroutine") (hb : fn.body ≠ none) (args : Array Value) (w : World) : (callFunc f args).run Try.prog w = .ok (.enter f args) w := by
  simp [callFunc, run_program, hf, hn, hb]
end Go.Proofs.Ytblmempidngcgaa
