/-
  What the document's Copy (package lockageref05) makes: a log with the same, in memory of its own. No conditions but how the log lies, and sizes. The laws' calls (package lockagelaw05) that come in as an argument, opened; what few answers of them. No conditions but how they lie. A log, its disk and the document's logs beside each other: what the laws' steps leave of them. No conditions but how they lie.
-/
import Derived.Test.YtbdgmddlghhkjaaPlgW
import Derived.Deep.RegionLaw
import Derived.Laws.AppendOwnNone
namespace Go.Proofs.Ytbdgmddlghhkjaa
open Go.RowKit

theorem one_readyH {P : Program} {md : Region.Mode} {ops : Array Oper} {Q : Exit → Act → World → Prop} {S : World → Prop} {fuel i : Nat} {listed : Array Bool} {a : Act} {w : World} (hr : Region.ready md ops listed = [i])
    (h : wpOp P ops Q i (fun a' w' => S w' ∧ wpAnyH P md ops Q S fuel (listed.setIfInBounds i true) a' w') a w) : wpAnyH P md ops Q S (fuel + 1) listed a w :=
  wpAnyH_ready hr (by simp) (fun j hj => by
    obtain rfl : j = i := by simpa using hj
    exact h)
/-- append of a list that may be nil onto a row of the call's own, as one step of a region that draws. -/
theorem step_append_opt {P : Program} (w : World) {ops : Array Oper} {o : Oper} {a : Act} {K : Act → World → Prop} {Q : Exit → Act → World → Prop} {E : Prop} (hgd : o.guard = none) (s x : Operand) (t : TypeId)
    (ho : o.op = .call { callee := .builtin .append, args := #[s, x], argTypes := #[t, t] })
    (base : Nat) (e : TypeId) (i : TypeInfo) (z : Value) (size bytes : Nat) (ht : P.underlying t = some (.slice e)) (hi : P.info? e = some i) (hz : i.zero = some z)
    (hsize : i.size = size) (hby : i.bytes = bytes) (hzs : z.cells.size = size) (hsz : 0 < size)
    (v : Value) (n : Nat) (xs : List Value) (hs : a.eval s = v) (hown : w.ownsRow base e size v n xs)
    (A : Option Addr) (m c : Nat) (news : List Value) (hx : a.eval x = .slice A m c) (hA : A = none → m = 0 ∧ c = 0) (hl : news.length = m * size) (hnews : ∀ ad, A = some ad → ∀ j u, news[j]? = some u → w.cell? (ad.add j) = some u) (h1 : ∀ u ∈ news, u.oneCell' = true)
    (h63 : n + m ≤ maxLen) (hbytes : (n + m) * bytes ≤ 140737488355328) (hbase : base ≤ w.heap.size)
    (h : ∀ v' w', w'.ownsRow base e size v' (n + m) (xs ++ news) → w.grownBy w' v.ownBlock → K (a.put o.dst v') w') :
    if Region.wanted o (yielded ops a.tmps) = true then Oper.wp P o a w K Q else E := by
  have hw : Region.wanted o (yielded ops a.tmps) = true := by simp [Region.wanted, hgd]
  rw [if_pos hw]
  rcases A with _ | ad
  · obtain ⟨rfl, rfl⟩ := hA rfl
    obtain rfl : news = [] := List.eq_nil_of_length_eq_zero (by simpa using hl)
    have hrun := run_append_owned_none (P := P) (w := w) base t o.type e i size ht hi v n xs hown
    unfold Oper.wp
    simp [execOp, ho, resolve, invoke, builtin, hs, hx, hrun, Result.andThen]
    exact h _ _ (by simpa using hown) (World.grownBy.refl w _)
  · exact wp_append_own w s x t ho base e i z size bytes ht hi hz hsize hby hzs hsz v n xs hs hown ad m c news hx hl (hnews ad rfl) h1 h63 hbytes hbase (fun v' w' h2 h3 _ => h v' w' h2 h3)

section
variable {w : World} {P : Nat → Prop} {R : Nat} {L : LogR} {u : Value}
/-- All that was there is as it was. -/
structure CpS (w W : World) : Prop where
  low : Below w.heap.size w W
set_option maxHeartbeats 2000000 in
set_option maxRecDepth 100000 in
theorem refcopy_is (h : RLogM w P R L u) (hl : L.recs.length ≤ 100000) :
    Calls Try.prog 21 #[.pointer (some ⟨R, 0, none⟩)] w fun e w' => ∃ R2 u2, e = .returned (.pointer (some ⟨R2, 0, none⟩)) ∧
      RLogM w' (fun i => w.heap.size ≤ i ∧ i < w'.heap.size) R2 L u2 ∧ Below w.heap.size w w' := by
  obtain ⟨A, c, hu, hT⟩ := own_as h.own
  have hA : A = none → L.recs.length = 0 ∧ c = 0 := fun e => by
    subst e
    rcases h.own.2 with ⟨e1, e2⟩ | ⟨q, cap, cur, e1, _⟩
    · rw [hu] at e1
      injection e1 with _ e1 e3
      exact ⟨e1, e3⟩
    · rw [hu] at e1; simp at e1
  subst hu
  have HA := Lib.hid hA
  have HT := Lib.hid hT
  have HL := Lib.hid hl
  obtain ⟨n, hn⟩ : ∃ n, n = L.recs.length := ⟨_, rfl⟩
  have HN := Lib.hid hn
  have C0 := Lib.hid (fun (W : World) (hW : CpS w W) => show W.cell? ⟨R, 0, none⟩ = some (.int .i64 L.gen) by simpa using cellH (later_at hW.low h.at_) 0)
  have C1 := Lib.hid (fun (W : World) (hW : CpS w W) => show W.cell? ⟨R, 1, none⟩ = some (.int .i64 L.half) by simpa using cellH (later_at hW.low h.at_) 1)
  have C2 := Lib.hid (fun (W : World) (hW : CpS w W) => show W.cell? ⟨R, 2, none⟩ = some (.string L.bs) by simpa using cellH (later_at hW.low h.at_) 2)
  have C3 := Lib.hid (fun (W : World) (hW : CpS w W) => show W.cell? ⟨R, 3, none⟩ = some (.slice A n c) by rw [hn]; simpa using cellH (later_at hW.low h.at_) 3)
  have C4 := Lib.hid (fun (W : World) (hW : CpS w W) => show W.cell? ⟨R, 4, none⟩ = some (.int .i64 L.at_) by simpa using cellH (later_at hW.low h.at_) 4)
  obtain ⟨i0, hi0, q0, q1, q2⟩ := info_parts info_str4
  clear h hA hT hn hl
  go_enter Try.func21, Try.ntmps21
  go_wp2_with fail
  refine wp_region_noPanic ?_
  refine wp_region_held_drew (S := CpS w) (by kernel_rfl) ⟨(Below.refl _ _).drew⟩ (fun hHeld => ?_)
  refine take_yes 0 3 (v := ?_) rfl rfl (by kernel_rfl) (by kernel_rfl) (by kernel_rfl) noPanic_any (by rfl) hHeld ?_ ?_
  rotate_left
  · intro wx hSw; clear hSw; go_simp <;> with_reducible rfl
  simp only [Act.put, List.setIfInBounds_toArray, List.set_cons_zero, List.set_cons_succ]
  refine take_yes 1 4 (v := ?_) rfl rfl (by kernel_rfl) (by kernel_rfl) (by kernel_rfl) noPanic_any (by rfl) hHeld ?_ ?_
  rotate_left
  · intro wx hSw; clear hSw; go_simp <;> with_reducible rfl
  simp only [Act.put, List.setIfInBounds_toArray, List.set_cons_zero, List.set_cons_succ]
  refine take_yes 2 5 (v := ?_) rfl rfl (by kernel_rfl) (by kernel_rfl) (by kernel_rfl) noPanic_any (by rfl) hHeld ?_ ?_
  rotate_left
  · intro wx hSw; clear hSw; go_simp <;> with_reducible rfl
  simp only [Act.put, List.setIfInBounds_toArray, List.set_cons_zero, List.set_cons_succ]
  refine take_yes 3 6 (v := ?_) rfl rfl (by kernel_rfl) (by kernel_rfl) (by kernel_rfl) noPanic_any (by rfl) hHeld ?_ ?_
  rotate_left
  · intro wx hSw; have g0 := C0.out wx hSw; clear hSw; go_simp <;> with_reducible rfl
  simp only [Act.put, List.setIfInBounds_toArray, List.set_cons_zero, List.set_cons_succ]
  refine take_yes 4 7 (v := ?_) rfl rfl (by kernel_rfl) (by kernel_rfl) (by kernel_rfl) noPanic_any (by rfl) hHeld ?_ ?_
  rotate_left
  · intro wx hSw; clear hSw; go_simp <;> with_reducible rfl
  simp only [Act.put, List.setIfInBounds_toArray, List.set_cons_zero, List.set_cons_succ]
  refine take_yes 5 8 (v := ?_) rfl rfl (by kernel_rfl) (by kernel_rfl) (by kernel_rfl) noPanic_any (by rfl) hHeld ?_ ?_
  rotate_left
  · intro wx hSw; clear hSw; go_simp <;> with_reducible rfl
  simp only [Act.put, List.setIfInBounds_toArray, List.set_cons_zero, List.set_cons_succ]
  refine take_yes 6 9 (v := ?_) rfl rfl (by kernel_rfl) (by kernel_rfl) (by kernel_rfl) noPanic_any (by rfl) hHeld ?_ ?_
  rotate_left
  · intro wx hSw; clear hSw; go_simp <;> with_reducible rfl
  simp only [Act.put, List.setIfInBounds_toArray, List.set_cons_zero, List.set_cons_succ]
  refine take_yes 7 10 (v := ?_) rfl rfl (by kernel_rfl) (by kernel_rfl) (by kernel_rfl) noPanic_any (by rfl) hHeld ?_ ?_
  rotate_left
  · intro wx hSw; have g0 := C1.out wx hSw; clear hSw; go_simp <;> with_reducible rfl
  simp only [Act.put, List.setIfInBounds_toArray, List.set_cons_zero, List.set_cons_succ]
  refine take_yes 8 11 (v := ?_) rfl rfl (by kernel_rfl) (by kernel_rfl) (by kernel_rfl) noPanic_any (by rfl) hHeld ?_ ?_
  rotate_left
  · intro wx hSw; clear hSw; go_simp <;> with_reducible rfl
  simp only [Act.put, List.setIfInBounds_toArray, List.set_cons_zero, List.set_cons_succ]
  refine take_yes 9 12 (v := ?_) rfl rfl (by kernel_rfl) (by kernel_rfl) (by kernel_rfl) noPanic_any (by rfl) hHeld ?_ ?_
  rotate_left
  · intro wx hSw; clear hSw; go_simp <;> with_reducible rfl
  simp only [Act.put, List.setIfInBounds_toArray, List.set_cons_zero, List.set_cons_succ]
  refine take_yes 10 13 (v := ?_) rfl rfl (by kernel_rfl) (by kernel_rfl) (by kernel_rfl) noPanic_any (by rfl) hHeld ?_ ?_
  rotate_left
  · intro wx hSw; clear hSw; go_simp <;> with_reducible rfl
  simp only [Act.put, List.setIfInBounds_toArray, List.set_cons_zero, List.set_cons_succ]
  refine take_yes 11 14 (v := ?_) rfl rfl (by kernel_rfl) (by kernel_rfl) (by kernel_rfl) noPanic_any (by rfl) hHeld ?_ ?_
  rotate_left
  · intro wx hSw; have g0 := C2.out wx hSw; clear hSw; go_simp <;> with_reducible rfl
  simp only [Act.put, List.setIfInBounds_toArray, List.set_cons_zero, List.set_cons_succ]
  refine take_yes 13 16 (v := ?_) rfl rfl (by kernel_rfl) (by kernel_rfl) (by kernel_rfl) noPanic_any (by rfl) hHeld ?_ ?_
  rotate_left
  · intro wx hSw; clear hSw; go_simp <;> with_reducible rfl
  simp only [Act.put, List.setIfInBounds_toArray, List.set_cons_zero, List.set_cons_succ]
  refine take_yes 14 17 (v := ?_) rfl rfl (by kernel_rfl) (by kernel_rfl) (by kernel_rfl) noPanic_any (by rfl) hHeld ?_ ?_
  rotate_left
  · intro wx hSw; clear hSw; go_simp <;> with_reducible rfl
  simp only [Act.put, List.setIfInBounds_toArray, List.set_cons_zero, List.set_cons_succ]
  refine take_yes 15 18 (v := ?_) rfl rfl (by kernel_rfl) (by kernel_rfl) (by kernel_rfl) noPanic_any (by rfl) hHeld ?_ ?_
  rotate_left
  · intro wx hSw; clear hSw; go_simp <;> with_reducible rfl
  simp only [Act.put, List.setIfInBounds_toArray, List.set_cons_zero, List.set_cons_succ]
  refine take_yes 16 19 (v := ?_) rfl rfl (by kernel_rfl) (by kernel_rfl) (by kernel_rfl) noPanic_any (by rfl) hHeld ?_ ?_
  rotate_left
  · intro wx hSw; have g0 := C3.out wx hSw; clear hSw; go_simp <;> with_reducible rfl
  simp only [Act.put, List.setIfInBounds_toArray, List.set_cons_zero, List.set_cons_succ]
  refine take_yes 18 21 (v := ?_) rfl rfl (by kernel_rfl) (by kernel_rfl) (by kernel_rfl) noPanic_any (by rfl) hHeld ?_ ?_
  rotate_left
  · intro wx hSw; clear hSw; go_simp <;> with_reducible rfl
  simp only [Act.put, List.setIfInBounds_toArray, List.set_cons_zero, List.set_cons_succ]
  refine take_yes 19 22 (v := ?_) rfl rfl (by kernel_rfl) (by kernel_rfl) (by kernel_rfl) noPanic_any (by rfl) hHeld ?_ ?_
  rotate_left
  · intro wx hSw; clear hSw; go_simp <;> with_reducible rfl
  simp only [Act.put, List.setIfInBounds_toArray, List.set_cons_zero, List.set_cons_succ]
  refine take_yes 20 23 (v := ?_) rfl rfl (by kernel_rfl) (by kernel_rfl) (by kernel_rfl) noPanic_any (by rfl) hHeld ?_ ?_
  rotate_left
  · intro wx hSw; clear hSw; go_simp <;> with_reducible rfl
  simp only [Act.put, List.setIfInBounds_toArray, List.set_cons_zero, List.set_cons_succ]
  refine take_yes 21 24 (v := ?_) rfl rfl (by kernel_rfl) (by kernel_rfl) (by kernel_rfl) noPanic_any (by rfl) hHeld ?_ ?_
  rotate_left
  · intro wx hSw; have g0 := C4.out wx hSw; clear hSw; go_simp <;> with_reducible rfl
  simp only [Act.put, List.setIfInBounds_toArray, List.set_cons_zero, List.set_cons_succ]
  generalize hWd : w.drew = W0 at hHeld ⊢
  clear hWd
  refine one_readyH (i := 12) (by kernel_rfl) (wpOp_step rfl (fun K hK => ?_))
  have HK := Lib.hid hK
  clear hK
  go_simp
  have HS1 : CpS w (W0.alloc (.cells #[] 9)) := ⟨hHeld.low.alloc hHeld.low.size _⟩
  refine HK.out _ _ ⟨HS1, ?_⟩
  clear HK K
  (try simp only [Act.put, List.setIfInBounds_toArray, List.set_cons_zero, List.set_cons_succ])
  have HS0 := Lib.hid hHeld
  clear hHeld
  refine one_readyH (i := 17) (by kernel_rfl) (wpOp_step rfl (fun K hK => ?_))
  have HK := Lib.hid hK
  clear hK
  refine step_append_opt _ rfl (.tmp 15) (.tmp 19) 35 rfl W0.heap.size 9 i0 _ 1 16 Try.underlying35 hi0 q0 q1 q2 rfl (by omega) (.slice (some ⟨W0.heap.size, 0, none⟩) 0 0) 0 [] rfl (World.ownsRow_lit W0 #[] 0 (Nat.le_refl _) (by unfold maxLen; omega) rfl) A n c (txV L.recs) rfl (by rw [HN.out]; exact HA.out) (by rw [HN.out, txV, List.length_map, Nat.mul_one]) ?_ (tx_one _) (by have := HL.out; have := HN.out; unfold maxLen; omega) (by have := HL.out; have := HN.out; omega) (by simp) ?_
  · intro ad ea j t ht
    rw [txV, List.getElem?_map] at ht
    cases hj : L.recs[j]? with
    | none => rw [hj] at ht; cases ht
    | some x =>
      rw [hj] at ht
      obtain rfl := Option.some.inj ht
      obtain ⟨ad', e, hc⟩ := HT.out (Nat.pos_of_ne_zero (fun e => by have := List.length_eq_zero_iff.1 e; rw [this] at hj; simp at hj))
      rw [ea] at e
      obtain rfl := Option.some.inj e
      exact cell_later HS1.low (hc j x hj)
  intro v2 W2 hown2 hg2
  have hown2 : W2.ownsRow W0.heap.size 9 1 v2 L.recs.length (txV L.recs) := by rw [← HN.out]; simpa using hown2
  have HS2 : CpS w W2 := ⟨HS1.low.grown hg2 (by have := HS1.low.size; omega) (by have := HS0.out.low.size; simp [Value.ownBlock]; omega)⟩
  refine HK.out _ _ ⟨HS2, ?_⟩
  clear HK K
  (try dsimp only)
  simp only [Act.put, List.setIfInBounds_toArray]
  obtain ⟨A2, c2, rfl, hT2⟩ := own_texts hown2 rfl
  refine take_yes 22 25 (v := ?_) rfl rfl (by kernel_rfl) (by kernel_rfl) (by kernel_rfl) noPanic_any (by rfl) HS2 ?_ ?_
  rotate_left
  · intro wx hSw; clear hSw; go_simp <;> with_reducible rfl
  simp only [Act.put]
  refine one_readyH (i := 23) (by kernel_rfl) (wpOp_step rfl (fun K hK => ?_))
  have HK := Lib.hid hK
  clear hK
  go_simp
  have HS3 : CpS w (W2.alloc (.cells #[.int .i64 L.gen, .int .i64 L.half, .string L.bs, .slice A2 L.recs.length c2, .int .i64 L.at_] 37)) := ⟨HS2.low.alloc HS2.low.size _⟩
  refine HK.out _ _ ⟨HS3, ?_⟩
  clear HK K
  refine take_yes 24 2 (v := ?_) rfl rfl (by kernel_rfl) (by kernel_rfl) (by kernel_rfl) noPanic_any (by rfl) HS3 ?_ ?_
  rotate_left
  · intro wx hSw; clear hSw; go_simp <;> with_reducible rfl
  simp only [Act.put, List.setIfInBounds_toArray, List.set_cons_zero, List.set_cons_succ]
  refine wpAnyH_done (by kernel_rfl) ?_ _
  refine NoPanic.normal ?_
  have HF := Lib.hid (show RLogM (W2.alloc (.cells #[.int .i64 L.gen, .int .i64 L.half, .string L.bs, .slice A2 L.recs.length c2, .int .i64 L.at_] 37)) (fun i => w.heap.size ≤ i ∧ i < (W2.alloc (.cells #[.int .i64 L.gen, .int .i64 L.half, .string L.bs, .slice A2 L.recs.length c2, .int .i64 L.at_] 37)).heap.size) W2.heap.size L (.slice A2 L.recs.length c2) from
    ⟨fun i hi => hi.2, ⟨HS2.low.size, by simp⟩, made_at _ _, fun g hg => by
      obtain ⟨h1, cs, h2⟩ := own_type hown2 hg
      have h3 := (Array.getElem?_eq_some_iff.1 h2).1
      have h4 := HS0.out.low.size
      exact ⟨by omega, by rw [World.size_alloc]; omega⟩, own_mono (own_agree hown2 (fun q _ hq => ((Below.refl _ _).alloc (Nat.le_refl _) _).block q hq)) (Nat.zero_le _)⟩)
  have HB := Lib.hid HS3.low
  clear HS3 HS2 HS1 hown2 hT2 hg2 HS0 HA HT C0 C1 C2 C3 C4 hi0 q0 q1 q2
  go_wp2_with fail
  go_ret
  exact ⟨_, _, rfl, HF.out, HB.out⟩
end
end Go.Proofs.Ytbdgmddlghhkjaa

namespace Go.Proofs.Ytbdgmddlghhkjaa
open Go.ChangeShapes Go.WideShapes Go.ChangeAt Go.RowKit Go.Joins Go.Deep

section
variable {H : Type} {enc : TypeId × Value → H} {w : World} {base : Nat} {spare : Nat → Bool} {held : Bool}

theorem cellsOp : Try.prog.cellsOf 42 = 4 := by kernel_rfl
theorem cellsCut : Try.prog.cellsOf 40 = 2 := by kernel_rfl
theorem cellsI : Try.prog.cellsOf 3 = 1 := by kernel_rfl
theorem cellsU : Try.prog.cellsOf 38 = 1 := by kernel_rfl

/-- What a cell holds. -/
def numAt (w : World) (a : Addr) : Int := match w.cell? a with | some (.int _ z) => z | _ => 0
def txtAt (w : World) (a : Addr) : ByteArray := match w.cell? a with | some (.string s) => s | _ => ⟨#[]⟩

set_option maxRecDepth 100000 in
theorem cut_open {fuel : Nat} {cs : List Value} {x : DataW H × List MemPlace} (h : DataW.trod enc Try.prog w base spare held fuel 40 cs = some x) :
    ∃ a b : Int, cs = [.int .i64 a, .int .u64 b] ∧ a ≤ 9223372036854775807 ∧ 0 ≤ b ∧ b < 18446744073709551616 := by
  obtain ⟨xs, n, _, _, hlen, hxl, hf⟩ := DataW.trod_struct Try.underlying40 h
  rw [cellsCut] at hlen
  match cs, hlen with
  | [c0, c1], _ =>
    have h0 := hf 0 _ rfl
    have h1 := hf 1 _ rfl
    have hx0 : xs[0]? = some (xs[0]'(by rw [hxl]; decide)) := List.getElem?_eq_getElem _
    have hx1 : xs[1]? = some (xs[1]'(by rw [hxl]; decide)) := List.getElem?_eq_getElem _
    rw [hx0] at h0
    rw [hx1] at h1
    simp only [List.getElem_toArray, List.getElem_cons_zero, List.getElem_cons_succ] at h0 h1
    simp only [cellsI, cellsU, List.drop_zero, List.take_succ_cons, List.take_zero, List.drop_succ_cons] at h0 h1
    obtain ⟨a, e0, _, ha⟩ := DataW.trod_int Try.underlying3 h0
    obtain ⟨b, e1, _, hb⟩ := DataW.trod_int Try.underlying38 h1
    injection e0 with e0
    injection e1 with e1
    have b0 := bounds_i64 ha
    have b1 := bounds_u64 hb
    exact ⟨a, b, by rw [e0, e1], b0.2, b1.1, by omega⟩

set_option maxRecDepth 100000 in
/-- One call: its four cells. -/
theorem op_open {fuel : Nat} {cs : List Value} {x : DataW H × List MemPlace} (h : DataW.trod enc Try.prog w base spare held fuel 42 cs = some x) :
    ∃ (s t : ByteArray) (a b : Int), cs = [.string s, .string t, .int .i64 a, .int .u64 b] ∧ s.size ≤ maxLen ∧ t.size ≤ maxLen ∧ a ≤ 9223372036854775807 ∧ 0 ≤ b ∧ b < 18446744073709551616 := by
  obtain ⟨xs, n, _, _, hlen, hxl, hf⟩ := DataW.trod_struct Try.underlying42 h
  rw [cellsOp] at hlen
  match cs, hlen with
  | [c0, c1, c2, c3], _ =>
    have h0 := hf 0 _ rfl
    have h1 := hf 1 _ rfl
    have h2 := hf 2 _ rfl
    have hx0 : xs[0]? = some (xs[0]'(by rw [hxl]; decide)) := List.getElem?_eq_getElem _
    have hx1 : xs[1]? = some (xs[1]'(by rw [hxl]; decide)) := List.getElem?_eq_getElem _
    have hx2 : xs[2]? = some (xs[2]'(by rw [hxl]; decide)) := List.getElem?_eq_getElem _
    rw [hx0] at h0
    rw [hx1] at h1
    rw [hx2] at h2
    simp only [List.getElem_toArray, List.getElem_cons_zero, List.getElem_cons_succ] at h0 h1 h2
    simp only [cellsS, cellsCut, List.drop_zero, List.take_succ_cons, List.take_zero, List.drop_succ_cons] at h0 h1 h2
    obtain ⟨s, e0, _, hs⟩ := DataW.trod_string Try.underlying9 h0
    obtain ⟨t, e1, _, ht⟩ := DataW.trod_string Try.underlying9 h1
    obtain ⟨a, b, e2, ha, hb0, hb1⟩ := cut_open h2
    injection e0 with e0
    injection e1 with e1
    injection e2 with e2 e3
    injection e3 with e3
    exact ⟨s, t, a, b, by rw [e0, e1, e2, e3], hs, ht, ha, hb0, hb1⟩

/-- n calls stand at A. -/
def PopsAt (w : World) (A : Option Addr) (n : Nat) (rc af : Nat → ByteArray) (ca cb : Nat → Int) : Prop :=
  0 < n → ∃ ad, A = some ad ∧ ∀ i, i < n → w.cell? (ad.add (i * 4)) = some (.string (rc i)) ∧ w.cell? ⟨(ad.add (i * 4)).block, (ad.add (i * 4)).off + 1, none⟩ = some (.string (af i)) ∧
    w.cell? ⟨(ad.add (i * 4)).block, (ad.add (i * 4)).off + 1 + 1, none⟩ = some (.int .i64 (ca i)) ∧ w.cell? ⟨(ad.add (i * 4)).block, (ad.add (i * 4)).off + 1 + 1 + 1, none⟩ = some (.int .u64 (cb i))
theorem PopsAt.later {w w' : World} {A : Option Addr} {n : Nat} {rc af : Nat → ByteArray} {ca cb : Nat → Int} (h : PopsAt w A n rc af ca cb) (hb : Below w.heap.size w w') : PopsAt w' A n rc af ca cb := fun hn => by
  obtain ⟨ad, e, hc⟩ := h hn
  refine ⟨ad, e, fun i hi => ?_⟩
  obtain ⟨h0, h1, h2, h3⟩ := hc i hi
  exact ⟨cell_later hb h0, cell_later hb h1, cell_later hb h2, cell_later hb h3⟩
/-- What is known of one call of a list. -/
structure PopOk (s t : ByteArray) (a b : Int) : Prop where
  s1 : s.size ≤ maxLen
  t1 : t.size ≤ maxLen
  a1 : a ≤ 9223372036854775807
  b0 : 0 ≤ b
  b1 : b < 18446744073709551616
theorem addr_at (ad : Addr) (k j : Nat) : (⟨(ad.add k).block, (ad.add k).off + (j + 1), none⟩ : Addr) = ad.add (k + (j + 1)) := by
  unfold Addr.add
  by_cases hk : k = 0 <;> simp [hk, Nat.add_assoc]
theorem pops_open {fuel : Nat} {A : Option Addr} {n c : Nat} {x : DataW H × List MemPlace} (h : DataW.trod enc Try.prog w base spare held fuel 22 [.slice A n c] = some x) :
    ∃ (rc af : Nat → ByteArray) (ca cb : Nat → Int), n ≤ 9223372036854775807 ∧ PopsAt w A n rc af ca cb ∧ ∀ i, i < n → PopOk (rc i) (af i) (ca i) (cb i) := by
  rcases open_slice Try.underlying22 h with ⟨h0, _⟩ | ⟨a, len, cap, m, k, D, Pl, hcs, _, hl, hcap, hmm, _, hi⟩
  · injection h0 with h0
    injection h0 with hA hn hc
    subst hA hn hc
    exact ⟨fun _ => ⟨#[]⟩, fun _ => ⟨#[]⟩, fun _ => 0, fun _ => 0, by omega, fun h => absurd h (by omega), fun i hi => absurd hi (by omega)⟩
  · injection hcs with hcs
    injection hcs with hA hn hc
    subst hA hn hc
    have hm : n ≤ m := by rw [hmm]; split <;> omega
    have each : ∀ i, i < n → ∃ (s t : ByteArray) (ca cb : Int), w.cell? (a.add (i * 4)) = some (.string s) ∧ w.cell? (a.add (i * 4 + 1)) = some (.string t) ∧ w.cell? (a.add (i * 4 + 2)) = some (.int .i64 ca) ∧ w.cell? (a.add (i * 4 + 3)) = some (.int .u64 cb) ∧ PopOk s t ca cb := fun i hin => by
      obtain ⟨cs', hc', ht'⟩ := hi i (by omega)
      obtain ⟨s, t, ca, cb, rfl, hs, ht, ha, hb0, hb1⟩ := op_open ht'
      rw [cellsOp] at hc'
      obtain ⟨_, _, hat⟩ := World.cells?_some hc'
      refine ⟨s, t, ca, cb, ?_, ?_, ?_, ?_, ⟨hs, ht, ha, hb0, hb1⟩⟩
      · have := hat 0 (by omega); simpa [Go.Deep.add_add] using this
      · have := hat 1 (by omega); rw [Go.Deep.add_add] at this; simpa using this
      · have := hat 2 (by omega); rw [Go.Deep.add_add] at this; simpa using this
      · have := hat 3 (by omega); rw [Go.Deep.add_add] at this; simpa using this
    refine ⟨fun i => txtAt w (a.add (i * 4)), fun i => txtAt w (a.add (i * 4 + 1)), fun i => numAt w (a.add (i * 4 + 2)), fun i => numAt w (a.add (i * 4 + 3)), by unfold maxLen at hcap; omega, fun _ => ⟨a, rfl, fun i hin => ?_⟩, fun i hin => ?_⟩
    · obtain ⟨s, t, ca, cb, h0, h1, h2, h3, _⟩ := each i hin
      have e1 := addr_at a (i * 4) 0
      have e2 := addr_at a (i * 4) 1
      have e3 := addr_at a (i * 4) 2
      simp only [Nat.add_assoc, Nat.reduceAdd] at e1 e2 e3 ⊢
      rw [e1, e2, e3]
      simp only [numAt, txtAt, h0, h1, h2, h3]
      exact ⟨trivial, trivial, trivial, trivial⟩
    · obtain ⟨s, t, ca, cb, h0, h1, h2, h3, hok⟩ := each i hin
      simp only [numAt, txtAt, h0, h1, h2, h3]
      exact hok
end

section
variable {w : World} {A : Option Addr} {n c : Nat} {rc af : Nat → ByteArray} {ca cb : Nat → Int}
/-- Few calls, with texts that aren't long. -/
def fewOk (n : Nat) (rc af : Nat → ByteArray) : Prop := n ≤ 60 ∧ ∀ i, i < n → (rc i).size ≤ 400 ∧ (af i).size ≤ 800
/-- What few answers. -/
def FewE (n : Nat) (rc af : Nat → ByteArray) (e : Ending) : Prop := ∃ b, e = .returned (.bool b) ∧ (b = true → fewOk n rc af)
set_option maxHeartbeats 1000000 in
set_option maxRecDepth 100000 in
theorem few_is (hA : PopsAt w A n rc af ca cb) (hn : n ≤ 9223372036854775807) : Calls Try.prog 8 #[.slice A n c] w fun e w' => FewE n rc af e ∧ Below w.heap.size w w' := by
  have HA := Lib.hid hA
  clear hA
  go_enter Try.func8, Try.ntmps8
  go_wp2_with fail
  go_loopw [7] (fun i wr => ∃ k : Nat, k ≤ n ∧ i = .int .i64 k ∧ (∀ j, j < k → (rc j).size ≤ 400 ∧ (af j).size ≤ 800) ∧ Below w.heap.size w wr) (fun i _ => n - (intOf i).toNat)
  case atStart => exact ⟨0, Nat.zero_le _, rfl, fun j hj => absurd hj (by omega), Below.refl _ _⟩
  case round =>
    obtain ⟨k, hk, rfl, hfew, hb⟩ := hrel
    have HF := Lib.hid hfew
    have HB := Lib.hid hb
    clear hfew hb
    by_cases hlt : k < n
    · obtain ⟨ad, e, hcell⟩ := HA.out (by omega)
      subst e
      obtain ⟨y0, y1, y2, y3⟩ := hcell k hlt
      have x0 := cell_later HB.out y0
      have x1 := cell_later HB.out y1
      have x2 := cell_later HB.out y2
      have x3 := cell_later HB.out y3
      clear hcell y0 y1 y2 y3
      have HB2 := Lib.hid (HB.out.alloc HB.out.size (.cells #[.string (rc k), .string (af k), .int .i64 (ca k), .int .u64 (cb k)] 42))
      by_cases h1 : 400 < (rc k).size
      · generalize rc k = s at *
        generalize af k = t at *
        go_wp2_with fail
        go_ret
        exact ⟨⟨_, rfl, fun h => by cases h⟩, HB2.out⟩
      · by_cases h2 : 800 < (af k).size
        · generalize rc k = s at *
          generalize af k = t at *
          go_wp2_with fail
          go_ret
          exact ⟨⟨_, rfl, fun h => by cases h⟩, HB2.out⟩
        · have HF2 := Lib.hid (show ∀ j, j < k + 1 → (rc j).size ≤ 400 ∧ (af j).size ≤ 800 from fun j hj => by
            by_cases e : j = k
            · subst e; omega
            · exact HF.out j (by omega))
          clear HF
          generalize hs : rc k = s at x0 h1 HB2
          generalize ht : af k = t at x1 h2 HB2
          clear hs ht
          go_wp2_with fail
          go_roundw
          case rel => exact ⟨k + 1, by omega, by go_num, HF2.out, HB2.out⟩
          case measure => simp [intOf]; omega
    · obtain rfl : k = n := by omega
      by_cases h60 : k ≤ 60
      · go_wp2_with fail
        go_ret
        exact ⟨⟨_, rfl, fun _ => ⟨h60, HF.out⟩⟩, HB.out⟩
      · go_wp2_with fail
        go_ret
        exact ⟨⟨_, rfl, fun h => absurd h (by simp; omega)⟩, HB.out⟩
end
end Go.Proofs.Ytbdgmddlghhkjaa

namespace Go.Proofs.Ytbdgmddlghhkjaa
open Go.RowKit

section
variable {w w' : World} {base D B k R R2 : Nat} {c : PCfg} {K : LogV} {st : Dk} {v u u2 : Value} {P P2 : Nat → Prop} {L L2 : LogR}
theorem RLogM.onlyT (h : RLogM w P R L u) (ho : OnlyT base progT w w') : RLogM w' P R L u :=
  h.frame (.of_onlyT ho) (fun i hi => by
    obtain ⟨cs, t, e, ht⟩ := h.type hi
    rintro ⟨_, cs', t', m, e', ht'⟩
    rw [e'] at e
    injection e with e
    injection e with _ e
    rw [e] at ht'
    rcases ht with ht | ht <;> rw [ht] at ht' <;> exact absurd ht' (by decide))
theorem diskAt_ref (hd : DiskAt w base D st) (h : RLogM w P R L u) (ho : OnlyP (twoB R u) w w') : DiskAt w' base D st :=
  diskAt_only hd ho (fun i cs t m hi he => by
    obtain ⟨cs', t', e, ht⟩ := h.type hi
    rw [he] at e
    injection e with e
    injection e with _ e
    rcases ht with ht | ht <;> rw [e, ht] <;> decide)
theorem twoB_in (h : RLogM w P R L u) {i : Nat} (hi : twoB R u i) : P i := by
  rcases hi with rfl | hi
  · exact h.r
  · exact h.row i hi
/-- Another log of the document's, in newer memory. -/
theorem RLogM.newer {w0 : World} (h2 : RLogM w (fun i => w0.heap.size ≤ i ∧ i < w.heap.size) R2 L2 u2) (h0 : ∀ i, P i → i < w0.heap.size) (h : RLogM w P R L u) (ho : OnlyP (twoB R u) w w') : RLogM w' (fun i => w0.heap.size ≤ i ∧ i < w.heap.size) R2 L2 u2 :=
  h2.frame ho (fun i hi q => by
    have h3 := twoB_in h q
    have h4 := twoB_in h2 hi
    have := h0 i h3
    have := h4.1
    omega)
theorem heap_only {P : Nat → Prop} (ho : OnlyP P w w') {g : Nat} {o : Obj} (h : w.heap[g]? = some o) (hn : ¬ P g) : w'.heap[g]? = some o :=
  (ho.block g (Array.getElem?_eq_some_iff.1 h).1 hn).trans h
theorem same_refl (half : Int) (K : LogV) : sameR (refOf half K) K.gen K.bs K.recs = true := by simp [sameR, refOf]
theorem same_ref (L : LogR) : sameR L (ofRef L).gen (ofRef L).bs (ofRef L).recs = true := by simp [sameR, ofRef]
/-- What was kept, or begun anew, is another log. -/
theorem same_not {L : LogR} {rec after : ByteArray} (h : (appendR L rec after).2 = 0) : sameR L (ofRef (appendR L rec after).1).gen (ofRef (appendR L rec after).1).bs (ofRef (appendR L rec after).1).recs = false := by
  unfold appendR at h ⊢
  split at h
  · exact absurd (show (13 : Int) = 0 from h) (by decide)
  · rename_i h1
    rw [if_neg h1]
    split at h
    · rename_i h2
      rw [if_pos h2]
      simp [sameR, ofRef]
    · rename_i h2
      rw [if_neg h2]
      split at h
      · exact absurd (show (4 : Int) = 0 from h) (by decide)
      · rename_i h3
        rw [if_neg h3]
        have : ¬ L.gen = L.gen + 1 := by omega
        simp [sameR, ofRef, this]
theorem refOf_of {L : LogR} {half : Int} (h : L.half = half) : refOf half (ofRef L) = L := by
  obtain ⟨a, b, c, d, e⟩ := L
  simp only at h
  subst h
  rfl
theorem appendR_codes (L : LogR) (rec after : ByteArray) : (appendR L rec after).2 = 0 ∨ (appendR L rec after).2 = 4 ∨ (appendR L rec after).2 = 13 := by
  unfold appendR
  split
  · exact .inr (.inr rfl)
  · split
    · exact .inl rfl
    · split
      · exact .inr (.inl rfl)
      · exact .inl rfl
/-- The document's log has no more than the program's bounds. -/
theorem InvP.sizes (h : InvP k c K st) : 0 ≤ (refOf c.half K).gen ∧ (refOf c.half K).gen ≤ 2147483647 ∧ 0 ≤ (refOf c.half K).at_ ∧ (refOf c.half K).at_ ≤ 100000 ∧ 0 ≤ (refOf c.half K).half ∧ (refOf c.half K).half ≤ 100000 ∧ (refOf c.half K).recs.length ≤ 100000 := by
  have h1 := h.log.g0
  have h2 := h.gk
  have h3 := h.few
  have h4 := h.a0
  have h5 := h.a1
  have h6 := h.h0
  have h7 := h.h1
  have h8 := h.rl
  unfold refOf
  simp only
  omega
/-- A disk that is armed, or not: the log's laws don't hang on it. -/
theorem InvP.arm (h : InvP k c K st) (a b : Int) : InvP k c K (armS st a b) := { h with }
theorem rec_len (h : InvP k c K st) : K.recs.length ≤ 2000 := by
  have h5 := h.a1
  have h7 := h.h1
  have h8 := h.rl
  omega
theorem at_count30 (n : Int) : ∃ m : Nat, wrap64 ((IntKind.u64.wrap n).tmod 30) = m ∧ m < 30 := by
  have h0 : 0 ≤ IntKind.u64.wrap n := by rw [IntKind.wrap_u64]; omega
  have e : (IntKind.u64.wrap n).tmod 30 = IntKind.u64.wrap n % 30 := Int.tmod_eq_emod_of_nonneg h0
  refine ⟨(IntKind.u64.wrap n % 30).toNat, ?_, by omega⟩
  rw [e]
  unfold wrap64
  omega
end
end Go.Proofs.Ytbdgmddlghhkjaa
