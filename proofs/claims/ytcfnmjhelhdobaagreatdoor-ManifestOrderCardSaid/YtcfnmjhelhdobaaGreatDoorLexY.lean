/-
  The program's Names: a word's parts between commas. Conditions: lengths. Plain words: a word's parts between commas are what layer 8's words say of it. The program's Names in these words.
-/
import Derived.Test.YtcfnmjhelhdobaaGreatDoorLexK
namespace Go.Proofs.YtcfnmjhelhdobaaGreatDoor
open Go.RowKit Go.Shelf

attribute [local go_sem] Oper.semAt_some

theorem six_new (w : World) (o1 o2 o3 o4 o5 o6 : Obj) : ((((((w.alloc o1).alloc o2).alloc o3).alloc o4).alloc o5).alloc o6).heap.size = w.heap.size + 6 ∧ ((((((w.alloc o1).alloc o2).alloc o3).alloc o4).alloc o5).alloc o6).heap[w.heap.size + 1]? = some o2 ∧ ((((((w.alloc o1).alloc o2).alloc o3).alloc o4).alloc o5).alloc o6).heap[w.heap.size + 2]? = some o3 ∧
    ((((((w.alloc o1).alloc o2).alloc o3).alloc o4).alloc o5).alloc o6).heap[w.heap.size + 3]? = some o4 ∧ ((((((w.alloc o1).alloc o2).alloc o3).alloc o4).alloc o5).alloc o6).heap[w.heap.size + 4]? = some o5 ∧ ((((((w.alloc o1).alloc o2).alloc o3).alloc o4).alloc o5).alloc o6).heap[w.heap.size + 5]? = some o6 ∧ Below w.heap.size w ((((((w.alloc o1).alloc o2).alloc o3).alloc o4).alloc o5).alloc o6) := by
  have a : ∀ (v : World) (o : Obj), Below v.heap.size v (v.alloc o) := fun v o => (Below.refl _ _).alloc (Nat.le_refl _) o
  obtain ⟨h1, h2, h3, h4, h5⟩ := four_new w o1 o2 o3 o4
  generalize (((w.alloc o1).alloc o2).alloc o3).alloc o4 = W at *
  have m5 := made_at W o5
  have m6 := made_at (W.alloc o5) o6
  simp only [World.size_alloc, h1] at m5 m6
  exact ⟨by simp [h1], later_at (a _ _) (later_at (a _ _) h2), later_at (a _ _) (later_at (a _ _) h3), later_at (a _ _) (later_at (a _ _) h4), later_at (a _ _) m5, m6, below_step (below_step h5 (a _ _)) (a _ _)⟩
theorem takes_next {ps : List Wd} {k : Nat} (hk : k < ps.length) : ps.take (k + 1) = ps.take k ++ [ps.getD k ⟨.empty, 0⟩] := by
  rw [List.take_add_one, List.getD_eq_getElem?_getD, List.getElem?_eq_getElem hk]
  rfl

/-- The first k parts are names. -/
def AllNm (ps : List Wd) (k : Nat) : Prop := ∀ j, j < k → nameP (ps.getD j ⟨.empty, 0⟩).t = true
/-- What Names answers: the parts, or an error at the first one that is no name. -/
def NmsPost (w : World) (ps : List Wd) (e : Ending) (w' : World) : Prop := Below w.heap.size w w' ∧
  ((AllNm ps ps.length ∧ ∃ v, e = .returned (.tuple #[v, .nilIface]) ∧ w'.ownsRow w.heap.size 81 2 v ps.length (wdCells ps)) ∨
   (∃ k F, k < ps.length ∧ AllNm ps k ∧ nameP (ps.getD k ⟨.empty, 0⟩).t = false ∧ e = .returned (.tuple #[.slice none 0 0, fltV F]) ∧ FaultAt w' F (ps.getD k ⟨.empty, 0⟩).p 15))
/-- What holds between two rounds, and where one has returned. -/
def NmsI (w : World) (ps : List Wd) (k : Nat) (W : World) : Prop := WrdI w (w.heap.size + 3) (w.heap.size + 8) (ps.take k) W ∧ AllNm ps k ∧ W.heap[w.heap.size + 1]? = some (.cells #[.slice none 0 0] 82 (0, 0)) ∧ W.heap[w.heap.size + 2]? = some (.cells #[.nilIface] 27 (0, 0))
def NmsX (w : World) (ps : List Wd) (W : World) : Prop := ∃ k F, k < ps.length ∧ AllNm ps k ∧ nameP (ps.getD k ⟨.empty, 0⟩).t = false ∧ Below w.heap.size w W ∧ FaultAt W F (ps.getD k ⟨.empty, 0⟩).p 15 ∧ w.heap.size + 8 ≤ F ∧ W.heap[w.heap.size + 1]? = some (.cells #[.slice none 0 0] 82 (0, 0)) ∧ W.heap[w.heap.size + 2]? = some (.cells #[fltV F] 27 (0, 0))
section
variable {w W W' : World} {ps : List Wd} {k : Nat}
theorem NmsI.apart {all : Nat → Prop} (h : NmsI w ps k W) (ha : Apart all W W') (h1 : ∀ q, all q → w.heap.size + 4 ≤ q ∧ q < w.heap.size + 8) : NmsI w ps k W' := by
  obtain ⟨h2, h3, h4, h5⟩ := h
  exact ⟨h2.apart ha (fun q hq => by have := h1 q hq; omega), h3, (ha.block _ (Array.getElem?_eq_some_iff.1 h4).1 (fun hx => by have := h1 _ hx; omega)).trans h4, (ha.block _ (Array.getElem?_eq_some_iff.1 h5).1 (fun hx => by have := h1 _ hx; omega)).trans h5⟩
theorem NmsI.below (h : NmsI w ps k W) (ha : Below W.heap.size W W') : NmsI w ps k W' := ⟨h.1.below ha, h.2.1, later_at ha h.2.2.1, later_at ha h.2.2.2⟩
theorem NmsX.apart {all : Nat → Prop} (h : NmsX w ps W) (ha : Apart all W W') (h1 : ∀ q, all q → w.heap.size + 4 ≤ q ∧ q < w.heap.size + 8) : NmsX w ps W' := by
  obtain ⟨k, F, a, b, c, d, e, f, g, i⟩ := h
  have st : ∀ {q : Nat} {o : Obj}, (q < w.heap.size + 4 ∨ w.heap.size + 8 ≤ q) → W.heap[q]? = some o → W'.heap[q]? = some o := fun hq ho => (ha.block _ (Array.getElem?_eq_some_iff.1 ho).1 (fun hx => by have := h1 _ hx; omega)).trans ho
  exact ⟨k, F, a, b, c, d.trans (ha.below (fun q hx => by have := h1 q hx; omega) d.size), st (.inr f) e, f, st (.inl (by omega)) g, st (.inl (by omega)) i⟩
end

theorem two_results {tmps : Array Value} {W : World} {B : Nat} {u v : Value} (ht : tmps.getD 2 undef = .pointer (some ⟨B + 1, 0, none⟩) ∧ tmps.getD 3 undef = .pointer (some ⟨B + 1 + 1, 0, none⟩)) (h1 : W.heap[B + 1]? = some (.cells #[u] 82 (0, 0))) (h2 : W.heap[B + 2]? = some (.cells #[v] 27 (0, 0))) :
    (results Tryz.f97 tmps).run Tryz.prog W = .ok (.tuple #[u, v]) W := by
  have y1 := cellH h1 0
  have y2 := cellH h2 0
  obtain ⟨t1, t2⟩ := ht
  simp at y1 y2 t1 t2
  simp [results, Tryz.results97, go_sem, t1, t2, y1, y2]
  trace_state
section
set_option maxHeartbeats 4000000 in
set_option maxRecDepth 100000 in
theorem names_of (w : World) (t : ByteArray) (p : Nat) (hl : p + t.size ≤ 1000000) (ps : List Wd) (hps0 : ps = (partsL 44 (bl t) p).map mkW) : Calls Tryz.prog 97 #[wdV t p] w (NmsPost w ps) := by
  have HPS := Lib.hid hps0
  clear hps0
  refine (callsIn_wide (n := 5)).1 ?_
  refine callsIn_of_wp_marks Tryz.func97 rfl trivial ?_ rfl
  simp only [Tryz.ntmps97, List.size_toArray, List.length_cons, List.length_nil, Nat.reduceAdd, Nat.reduceSub, Array.replicate_succ, Array.replicate_zero, List.push_toArray, List.append_toArray, List.nil_append, List.cons_append]
  have HP := Lib.hid (fun W : World => parts_is W t p 44)
  gi_wp2
  refine ⟨trivial, (callsIn_wide.2 (HP.out _)).mono ?_⟩
  rintro e w1 ⟨rfl, hw1⟩
  gi_wp2
  rw [← hw1]
  obtain ⟨hsz, h1, h2, hV, hB, hS, hbel⟩ := six_new w (.cells #[.string t, .int .i64 p] 81) (.cells #[.slice none 0 0] 82) (.cells #[.nilIface] 27) (.cells #[.slice none 0 0] 82) (.cells #[.string t, .int .i64 p] 81) (.cells #[.int .u8 44] 5)
  rw [← hw1] at hsz h1 h2 hV hB hS hbel
  clear hw1 HP
  have hps := HPS.out
  have hit := parts_iter (w := w1) (s := t) (p := p) (B := w.heap.size + 4) (c := 44) 4 (by omega) hB hS (by omega)
  rw [← hps] at hit
  clear hps
  refine wpIn_range rfl (by omega) (gf := 57) (lb := #[.pointer (some ⟨w.heap.size + 4, 0, none⟩), .pointer (some ⟨w.heap.size + 4 + 1, 0, none⟩)]) rfl trivial (enters_of Tryz.func57 (by kernel_rfl) rfl)
    (bad := ownB (w.heap.size + 4)) (all := fun q => ownB (w.heap.size + 4) q ∨ q = w1.heap.size ∨ q = w1.heap.size + 1) (encs := encW ps) (N := ps.length) (fun q hq => by unfold ownB at hq; omega) (fun _ => Iff.rfl) hit (fun _ => rfl)
    (NmsI w ps) (NmsX w ps)
    (fun k a' W => NmsI w ps k W ∧ ∃ BX, w.heap.size + 8 ≤ BX ∧ W.heap[BX]? = some (.cells #[.string (ps.getD k ⟨.empty, 0⟩).t, .int .i64 (ps.getD k ⟨.empty, 0⟩).p] 81 (0, 0)) ∧
      a' = { tmps := #[wdV t p, .pointer (some ⟨w.heap.size, 0, none⟩), .pointer (some ⟨w.heap.size + 1, 0, none⟩), .pointer (some ⟨w.heap.size + 1 + 1, 0, none⟩), .pointer (some ⟨w.heap.size + 1 + 1 + 1, 0, none⟩), .pointer (some ⟨BX, 0, none⟩), .agg #[.string t, .int .i64 p], .func (.func 57) #[] #[.pointer (some ⟨w.heap.size + 1 + 1 + 1 + 1, 0, none⟩), .pointer (some ⟨w.heap.size + 1 + 1 + 1 + 1 + 1, 0, none⟩)], wdV (ps.getD k ⟨.empty, 0⟩).t (ps.getD k ⟨.empty, 0⟩).p, undef, undef, undef, undef, undef, undef, undef, undef, undef, undef, undef, undef, undef], defers := [] })
    (fun k A B h ha => h.apart ha (fun q hq => by unfold ownB at hq; omega)) (fun A B h ha => h.apart ha (fun q hq => by unfold ownB at hq; omega)) ?hAx ⟨⟨.slice none 0 0, hV, World.ownsRow_nil _ _ _ _, hbel⟩, fun j hj => absurd hj (by omega), h1, h2⟩ ?assign ?body ?done ?stop
  case hAx =>
    rintro k a' A B ⟨h, BX, h1, h2, h3⟩ ha
    exact ⟨h.apart ha (fun q hq => by unfold ownB at hq; omega), BX, h1, (ha.block BX (Array.getElem?_eq_some_iff.1 h2).1 (fun hx => by unfold ownB at hx; omega)).trans h2, h3⟩
  case assign =>
    intro k W hk hs hI
    unfold encW
    generalize ps.getD k ⟨.empty, 0⟩ = x
    gi_wp2
    have hb : Below W.heap.size W (W.alloc (.cells #[.string x.t, .int .i64 x.p] 81)) := (Below.refl _ _).alloc (Nat.le_refl _) _
    exact ⟨Keeps.of_below hb, hI.below hb, W.heap.size, by omega, made_at _ _, rfl⟩
  case body =>
    rintro k a' W hk hs ⟨hI, BX, hBX, hx, rfl⟩
    have hto := takes_next hk
    have hfit := part_fits HPS.out hk
    obtain ⟨⟨v, hv, ho, hb⟩, hN, hr1, hr2⟩ := hI
    have hN1 : nameP (ps.getD k ⟨.empty, 0⟩).t = true → AllNm ps (k + 1) := fun h j hj => by
      rcases Nat.lt_or_ge j k with h' | h'
      · exact hN j h'
      · obtain rfl : j = k := by omega
        exact h
    have HXN := Lib.hid (fun (F : Nat) (C : World) (a : nameP (ps.getD k ⟨.empty, 0⟩).t = false) (b : Below w.heap.size w C) (c : FaultAt C F (ps.getD k ⟨.empty, 0⟩).p 15) d e f => (⟨k, F, hk, hN, a, b, c, d, e, f⟩ : NmsX w ps C))
    generalize ps.getD k ⟨.empty, 0⟩ = x at hx hto hfit hN1 HXN ⊢
    have x0 := cellH hx 0
    have x1 := cellH hx 1
    simp at x0 x1
    have v0 := cellH hv 0
    simp at v0
    have HIS := Lib.hid (fun A : World => isname_is x.t A)
    have HV := Lib.hid hv
    have HO := Lib.hid ho
    have HB := Lib.hid hb
    have HX := Lib.hid hx
    have HT := Lib.hid hto
    have HR1 := Lib.hid hr1
    have HR2 := Lib.hid hr2
    by_cases hnm : nameP x.t = true
    · have HN := Lib.hid (hN1 hnm)
      rw [hnm] at HIS
      clear hto hv ho hb hx hN hN1 hr1 hr2 HXN hnm
      gi_wp2
      refine ⟨trivial, (CallsIn.inRound _ (callsIn_wide.2 (HIS.out W))).mono ?_⟩
      rintro e W' ⟨rfl, rfl⟩
      clear HIS
      gi_wp2
      have cells : ∀ A, Below W.heap.size W A → A.cell? ⟨w.heap.size + 3, 0, none⟩ = some v ∧ A.cell? ⟨BX, 0, none⟩ = some (.string x.t) ∧ A.cell? ⟨BX, 1, none⟩ = some (.int .i64 x.p) := fun A hA => ⟨cell_later hA v0, cell_later hA x0, cell_later hA x1⟩
      have HC := Lib.hid cells
      have HOW := Lib.hid (fun A : World => own_is A x.t x.p (by omega))
      clear cells v0 x0 x1
      refine six_orders (S := fun A => Below W.heap.size W A) 16 17 18 19 v (wdV x.t x.p) (wdV x.t x.p) (fun h => .slice (some ⟨h, 0, none⟩) 1 1) (o := .cells #[.string x.t, .int .i64 x.p] 81) rfl (by kernel_rfl) (by kernel_rfl) (by kernel_rfl) (by kernel_rfl) (by kernel_rfl) (by kernel_rfl) (by kernel_rfl) (by kernel_rfl) (by kernel_rfl) (by kernel_rfl) (by kernel_rfl) (by decide) (by decide) (by decide) ?s0 ?s1 ?s01 ?s10 ?s12 ?s012 ?s120 ?s123 ?s0123 ?s1230 ?s4 (Below.refl _ _).drew
      case s0 =>
        intro K A hA hK
        obtain ⟨y0, y1, y2⟩ := HC.out A hA
        refine wpOpIn_step rfl fun K' hK' => ?_
        go_simp
        exact hK' _ _ hK
      case s1 =>
        intro K A hA hK
        obtain ⟨y0, y1, y2⟩ := HC.out A hA
        refine wpOpIn_step rfl fun K' hK' => ?_
        go_simp
        exact hK' _ _ hK
      case s01 =>
        intro K A hA hK
        obtain ⟨y0, y1, y2⟩ := HC.out A hA
        refine wpOpIn_step rfl fun K' hK' => ?_
        go_simp
        exact hK' _ _ hK
      case s10 =>
        intro K A hA hK
        obtain ⟨y0, y1, y2⟩ := HC.out A hA
        refine wpOpIn_step rfl fun K' hK' => ?_
        go_simp
        exact hK' _ _ hK
      case s12 =>
        intro K A hA hK
        refine wpOpIn_step rfl fun K' hK' => ?_
        go_simp
        refine ⟨trivial, (CallsIn.inRound _ (callsIn_wide.2 (HOW.out A))).mono ?_⟩
        rintro e B ⟨rfl, hB⟩
        exact hK' _ _ (hK B (below_step hA hB))
      case s012 =>
        intro K A hA hK
        refine wpOpIn_step rfl fun K' hK' => ?_
        go_simp
        refine ⟨trivial, (CallsIn.inRound _ (callsIn_wide.2 (HOW.out A))).mono ?_⟩
        rintro e B ⟨rfl, hB⟩
        exact hK' _ _ (hK B (below_step hA hB))
      case s120 =>
        intro K A hA hK
        obtain ⟨y0, y1, y2⟩ := HC.out A hA
        refine wpOpIn_step rfl fun K' hK' => ?_
        go_simp
        exact hK' _ _ hK
      case s123 =>
        intro K A hA hK
        refine wpOpIn_step rfl fun K' hK' => ?_
        go_simp
        exact hK' _ _ hK
      case s0123 =>
        intro K A hA hK
        refine wpOpIn_step rfl fun K' hK' => ?_
        go_simp
        exact hK' _ _ hK
      case s1230 =>
        intro K A hA hK
        obtain ⟨y0, y1, y2⟩ := HC.out _ (hA.alloc hA.size (.cells #[.string x.t, .int .i64 x.p] 81))
        refine wpOpIn_step rfl fun K' hK' => ?_
        go_simp
        exact hK' _ _ hK
      case s4 =>
        intro A hA
        have hA2 := hA.alloc hA.size (.cells #[.string x.t, .int .i64 x.p] 81)
        have hvA := later_at hA2 HV.out
        have hoA := own_agree HO.out (fun q _ hl => hA2.block q hl)
        have hbA := below_step HB.out hA2
        have hnews := new_word A x
        have hsA := hA.size
        have hfl : (ps.take k).length ≤ 1000001 := by
          rw [List.length_take]
          have := parts_few (c := 44) (bl t) p
          rw [bl_len] at this
          have h9 : ps.length = (partsL 44 (bl t) p).length := by rw [HPS.out, List.length_map]
          omega
        have h1A := later_at hA2 HR1.out
        have h2A := later_at hA2 HR2.out
        clear HC HOW
        obtain ⟨i0, hi, hz0, hz1, hz2⟩ := info_parts info_wordZ
        refine opIn_append_own _ rfl rfl (.tmp 16) (.tmp 19) 82 rfl (w.heap.size + 8) 81 i0 _ 2 24 Tryz.underlying82 hi hz0 hz1 hz2 rfl (by omega) v _ _ rfl hoA ⟨A.heap.size, 0, none⟩ 1 1 (wdC x) rfl rfl hnews (by intro u hu; simp [wdC] at hu; rcases hu with rfl | rfl <;> rfl) ?_ ?_ (by simp; omega) ?_
        · unfold maxLen; omega
        · omega
        intro v2 C hown2 hg
        have hvC := row_more (T := 82) (by decide) hvA hoA hg
        have hkG : Keeps (fun q => ownB (w.heap.size + 4) q ∨ q = w1.heap.size ∨ q = w1.heap.size + 1) (A.alloc (.cells #[.string x.t, .int .i64 x.p] 81)) C := Keeps.grown hg (fun q hq _ e => by
          have := (own_tag hoA e.symm).1
          unfold ownB at hq
          omega)
        have hbC := hbA.grown hg hbA.size (fun g e => by have := (own_tag hoA e).1; omega)
        have H1C := Lib.hid (row_more (T := 82) (E := 81) (by decide) h1A hoA hg)
        have H2C := Lib.hid (row_more (T := 27) (E := 81) (by decide) h2A hoA hg)
        clear h1A h2A
        obtain ⟨g2, c2, rfl⟩ := ownsRow_succ hown2
        have HO2 := Lib.hid hown2
        have HVC := Lib.hid hvC
        have HKG := Lib.hid hkG
        have HBC := Lib.hid hbC
        have z0 := cellH hvC 0
        have f0 := freeH hvC 0
        simp at z0
        clear hown2 hg hvC hkG hbC hoA hbA hvA hi hz0 hz1 hz2
        refine wpOpIn_step rfl fun K' hK' => ?_
        go_simp
        refine hK' _ _ ⟨?_, ?_⟩
        · exact ((Keeps.of_below hA2).trans HKG.out).trans (Keeps.set (fun q hq _ e => by unfold ownB at hq; omega))
        · refine ⟨?_, HN.out, (Below.heap_setCell C ⟨w.heap.size + 3, 0, none⟩ _ (w.heap.size + 1) (by show w.heap.size + 1 ≠ w.heap.size + 3; omega)).trans H1C.out, (Below.heap_setCell C ⟨w.heap.size + 3, 0, none⟩ _ (w.heap.size + 2) (by show w.heap.size + 2 ≠ w.heap.size + 3; omega)).trans H2C.out⟩
          rw [HT.out]
          refine ⟨_, row_set HVC.out, ?_, HBC.out.setCell (p := ⟨w.heap.size + 3, 0, none⟩) (by show w.heap.size ≤ w.heap.size + 3; omega) _⟩
          rw [List.length_append, wdCells_add, wdCells_one]
          have h8 := HO2.out
          simp only [List.length_take, List.length_singleton] at h8 ⊢
          exact own_agree h8 (fun q hq _ => Below.heap_setCell C ⟨w.heap.size + 3, 0, none⟩ _ q (by show q ≠ w.heap.size + 3; omega))
    · have hnm := Bool.eq_false_iff.2 hnm
      have HF := Lib.hid (fun A : World => fault_is A x.p 15)
      have HXN2 := Lib.hid (fun F C => HXN.out F C hnm)
      rw [hnm] at HIS
      clear hto hv ho hb hx hN hN1 hr1 hr2 HXN hnm
      gi_wp2
      refine ⟨trivial, (CallsIn.inRound _ (callsIn_wide.2 (HIS.out W))).mono ?_⟩
      rintro e W' ⟨rfl, rfl⟩
      clear HIS
      gi_wp2
      refine ⟨trivial, (CallsIn.inRound _ (callsIn_wide.2 (HF.out W))).mono ?_⟩
      rintro e W2 ⟨F, rfl, hF, hF2, hb2⟩
      have k1 := later_at hb2 HR1.out
      have k2 := later_at hb2 HR2.out
      have y0 := cellH k1 0
      have y1 := freeH k1 0
      have y2 := cellH k2 0
      have y3 := freeH k2 0
      simp at y0 y2
      have K1 := Lib.hid k1
      have K2 := Lib.hid k2
      have KF := Lib.hid hF
      have KB := Lib.hid hb2
      have KB2 := Lib.hid (below_step HB.out hb2)
      clear k1 k2 hF hb2
      unfold fltV
      gi_wp2
      refine ⟨(Keeps.of_below KB.out).trans ((Keeps.set (fun q hq _ e => by unfold ownB at hq; omega)).trans (Keeps.set (fun q hq _ e => by unfold ownB at hq; omega))), ?_⟩
      have st : ∀ (C : World) (i : Nat) (u : Value) (q : Nat), q ≠ i → (C.setCell ⟨i, 0, none⟩ u).heap[q]? = C.heap[q]? := fun C i u q h => Below.heap_setCell C ⟨i, 0, none⟩ u q h
      refine HXN2.out F _ ((KB2.out.setCell (p := ⟨w.heap.size + 1, 0, none⟩) (by show w.heap.size ≤ w.heap.size + 1; omega) _).setCell (p := ⟨w.heap.size + 1 + 1, 0, none⟩) (by show w.heap.size ≤ w.heap.size + 1 + 1; omega) _) ?_ ?_ ?_ ?_
      · exact (st _ _ _ F (by omega)).trans ((st _ _ _ F (by omega)).trans KF.out)
      · omega
      · exact (st _ _ _ _ (by omega)).trans (row_set K1.out)
      · exact row_set ((st _ _ _ _ (by omega)).trans K2.out)
  case done =>
    intro W hI hD
    obtain ⟨⟨v, hv, ho, hb⟩, hN, hr1, hr2⟩ := hI
    have v0 := cellH hv 0
    have y0 := cellH hr1 0
    have y1 := freeH hr1 0
    have y2 := cellH hr2 0
    have y3 := freeH hr2 0
    simp at v0 y0 y2
    rw [List.take_length] at ho
    obtain ⟨A0, c0, rfl⟩ := own_slc ho
    have HO := Lib.hid ho
    have HB := Lib.hid hb
    have HN := Lib.hid hN
    have HR1 := Lib.hid hr1
    have HR2 := Lib.hid hr2
    have HD := Lib.hid hD
    obtain ⟨N, hNN⟩ : ∃ N, N = ps.length := ⟨_, rfl⟩
    rw [← hNN] at v0
    have HNN := Lib.hid hNN
    clear hv ho hb hN hr1 hr2 hD hNN
    gi_wp2
    have st : ∀ (C : World) (i : Nat) (u : Value) (q : Nat), q ≠ i → (C.setCell ⟨i, 0, none⟩ u).heap[q]? = C.heap[q]? := fun C i u q h => Below.heap_setCell C ⟨i, 0, none⟩ u q h
    obtain ⟨W2, hW2⟩ : ∃ W2, (W.setCell ⟨w.heap.size + 1, 0, none⟩ (.slice A0 N c0)).setCell ⟨w.heap.size + 1 + 1, 0, none⟩ .nilIface = W2 := ⟨_, rfl⟩
    have e1 : W2.heap[w.heap.size + 1]? = some (.cells #[.slice A0 N c0] 82 (0, 0)) := by rw [← hW2]; exact (st _ _ _ _ (by omega)).trans (row_set HR1.out)
    have e2 : W2.heap[w.heap.size + 2]? = some (.cells #[.nilIface] 27 (0, 0)) := by rw [← hW2]; exact row_set ((st _ _ _ _ (by omega)).trans HR2.out)
    have e3 : W2.heap[w1.heap.size]? = some (.deferred (some [])) := by rw [← hW2]; exact (st _ _ _ _ (by omega)).trans ((st _ _ _ _ (by omega)).trans HD.out)
    have e4 : Below w.heap.size w W2 := by rw [← hW2]; exact (HB.out.setCell (p := ⟨w.heap.size + 1, 0, none⟩) (by show w.heap.size ≤ w.heap.size + 1; omega) _).setCell (p := ⟨w.heap.size + 1 + 1, 0, none⟩) (by show w.heap.size ≤ w.heap.size + 1 + 1; omega) _
    have e5 : W2.ownsRow (w.heap.size + 8) 81 2 (.slice A0 N c0) N (wdCells ps) := by rw [← hW2, HNN.out]; exact own_agree HO.out (fun q hq _ => (st _ _ _ _ (by omega)).trans (st _ _ _ _ (by omega)))
    rw [hW2]
    clear hW2
    refine ⟨by simp, .inl ⟨_, _, rfl, run_takeDeferred e3, ?_⟩⟩
    have pt : ∀ q, q ≠ w1.heap.size → (W2.putObj w1.heap.size (.deferred none)).heap[q]? = W2.heap[q]? := fun q h => World.putObj_heap_other h
    have g1 := (pt _ (by omega)).trans e1
    have g2 := (pt _ (by omega)).trans e2
    refine ⟨.tuple #[.slice A0 N c0, .nilIface], two_results ⟨rfl, rfl⟩ g1 g2, ?_⟩
    refine ⟨e4.trans ((Apart.put (bad := fun q => q = w1.heap.size) rfl).below (fun q hq => by omega) e4.size), .inl ⟨HN.out, _, rfl, ?_⟩⟩
    rw [← HNN.out]
    exact own_base (own_agree e5 (fun q hq _ => pt q (by omega))) (by omega)
  case stop =>
    intro W hX hD
    obtain ⟨k, F, hk, hN, hn, hb, hF, hF2, hr1, hr2⟩ := hX
    have HX := Lib.hid hk
    gi_wp2
    refine ⟨by simp, .inl ⟨_, _, rfl, run_takeDeferred hD, ?_⟩⟩
    have pt : ∀ q, q ≠ w1.heap.size → (W.putObj w1.heap.size (.deferred none)).heap[q]? = W.heap[q]? := fun q h => World.putObj_heap_other h
    refine ⟨.tuple #[.slice none 0 0, fltV F], two_results ⟨rfl, rfl⟩ ((pt _ (by omega)).trans hr1) ((pt _ (by omega)).trans hr2), ?_⟩
    exact ⟨hb.trans ((Apart.put (bad := fun q => q = w1.heap.size) rfl).below (fun q hq => by omega) hb.size), .inr ⟨k, F, hk, hN, hn, rfl, (pt F (by omega)).trans hF⟩⟩
end
end Go.Proofs.YtcfnmjhelhdobaaGreatDoor

namespace Go.Proofs.YtcfnmjhelhdobaaGreatDoor
open Go.RowKit

/-- The parts, if all are names; else the place of the first one that is none. -/
def firstNo : List Wd → List Wd → List Wd ⊕ Nat
  | out, [] => .inl out
  | out, x :: r => if nameP x.t then firstNo (out ++ [x]) r else .inr x.p
theorem namesGo_parts (s : ByteArray) (p : Nat) : ∀ (f fr i : Nat) (out : List Wd), i + f = s.size → fr ≤ i → (∀ b ∈ ((bl s).drop fr).take (i - fr), b ≠ 44) → namesGo s p f fr i out = firstNo out ((partsL 44 ((bl s).drop fr) (p + fr)).map mkW)
  | 0, fr, i, out, hi, hf, hc => by
    have hl : (bl s).length = s.size := bl_len s
    have hx : ((bl s).drop fr).take (i - fr) = (bl s).drop fr := List.take_of_length_le (by rw [List.length_drop]; omega)
    rw [hx] at hc
    have e : s.extract fr i = ofL ((bl s).drop fr) := by
      apply bl_inj
      rw [bl_extract, bl_ofL, List.take_of_length_le (by omega)]
    rw [partsL_none _ _ hc]
    unfold namesGo
    rw [e]
    rfl
  | f + 1, fr, i, out, hi, hf, hc => by
    have hl : (bl s).length = s.size := bl_len s
    have hlt : i < (bl s).length := by omega
    obtain ⟨x, hx⟩ : ∃ x, x = ((bl s).drop fr).take (i - fr) := ⟨_, rfl⟩
    rw [← hx] at hc
    have hxl : x.length = i - fr := by rw [hx, List.length_take, List.length_drop]; omega
    have hsplit : (bl s).drop fr = x ++ (bl s).drop i := by
      conv => lhs; rw [← List.take_append_drop (i - fr) ((bl s).drop fr)]
      rw [← hx, List.drop_drop, show fr + (i - fr) = i by omega]
    have hget : (bl s).drop i = (bl s)[i] :: (bl s).drop (i + 1) := List.drop_eq_getElem_cons hlt
    have hby : byL s i = ((bl s)[i].toNat : Int) := by
      unfold byL
      rw [List.getD_eq_getElem?_getD, List.getElem?_eq_getElem hlt]
      rfl
    have hex : s.extract fr i = ofL x := by
      apply bl_inj
      rw [bl_extract, bl_ofL, hx, List.drop_take]
    unfold namesGo
    by_cases h44 : (bl s)[i] = 44
    · rw [if_pos (by rw [hby, h44]; rfl), hsplit, hget, h44, partsL_at _ _ _ hc, List.map_cons, hex]
      show _ = if nameP (ofL x) then firstNo (out ++ [⟨ofL x, p + fr⟩]) _ else .inr (p + fr)
      rw [show p + fr + x.length + 1 = p + (i + 1) by omega]
      by_cases hn : nameP (ofL x) = true
      · rw [if_pos hn, if_pos hn]
        exact namesGo_parts s p f (i + 1) (i + 1) _ (by omega) (Nat.le_refl _) (by simp)
      · rw [if_neg hn, if_neg hn]
    · rw [if_neg (by
        rw [hby]
        intro e
        exact h44 (UInt8.toNat_inj.1 (by have : (44 : UInt8).toNat = 44 := rfl; omega)))]
      refine namesGo_parts s p f fr (i + 1) out (by omega) (by omega) ?_
      rw [show i + 1 - fr = (i - fr) + 1 by omega, List.take_add_one, ← hx]
      intro b hb
      rcases List.mem_append.1 hb with hb | hb
      · exact hc b hb
      · rw [List.getElem?_drop, show fr + (i - fr) = i by omega, List.getElem?_eq_getElem hlt] at hb
        obtain rfl : b = (bl s)[i] := by simpa using hb
        exact h44
theorem firstNo_all : ∀ (ps out : List Wd), (∀ x ∈ ps, nameP x.t = true) → firstNo out ps = .inl (out ++ ps)
  | [], out, _ => by simp [firstNo]
  | x :: r, out, h => by
    rw [firstNo, if_pos (h x (List.mem_cons_self ..)), firstNo_all r _ (fun y hy => h y (List.mem_cons_of_mem _ hy))]
    simp
theorem firstNo_bad : ∀ (ps out : List Wd) (k : Nat), k < ps.length → AllNm ps k → nameP (ps.getD k ⟨.empty, 0⟩).t = false → firstNo out ps = .inr (ps.getD k ⟨.empty, 0⟩).p
  | [], _, _, hk, _, _ => absurd hk (by simp)
  | x :: r, out, 0, _, _, hn => by
    have hn' : nameP x.t = false := hn
    rw [firstNo, if_neg (by rw [hn']; decide)]
    rfl
  | x :: r, out, k + 1, hk, ha, hn => by
    have h0 : nameP x.t = true := ha 0 (by omega)
    rw [firstNo, if_pos h0]
    exact firstNo_bad r _ k (by simpa using hk) (fun j hj => ha (j + 1) (by omega)) hn
/-- What layer 8's words say of a word's parts. -/
theorem namesP_parts (t : ByteArray) (p : Nat) : namesP ⟨t, p⟩ = firstNo [] ((partsL 44 (bl t) p).map mkW) := by
  have h := namesGo_parts t p t.size 0 0 [] (by omega) (Nat.le_refl _) (by simp)
  rw [List.drop_zero] at h
  exact h
/-- What the program's Names answers, in layer 8's words. -/
def NamesPost (w : World) (r : List Wd ⊕ Nat) (e : Ending) (w' : World) : Prop := Below w.heap.size w w' ∧ match r with
  | .inl l => ∃ v, e = .returned (.tuple #[v, .nilIface]) ∧ w'.ownsRow w.heap.size 81 2 v l.length (wdCells l)
  | .inr q => ∃ F, e = .returned (.tuple #[.slice none 0 0, fltV F]) ∧ FaultAt w' F q 15
theorem names_p (w : World) (t : ByteArray) (p : Nat) (hl : p + t.size ≤ 1000000) : Calls Tryz.prog 97 #[wdV t p] w (NamesPost w (namesP ⟨t, p⟩)) := by
  refine (names_of w t p hl _ rfl).mono fun e w' ⟨hb, h⟩ => ⟨hb, ?_⟩
  rw [namesP_parts]
  rcases h with ⟨ha, v, he, ho⟩ | ⟨k, F, hk, ha, hn, he, hF⟩
  · rw [firstNo_all _ [] (fun x hx => by
      obtain ⟨i, hi, e⟩ := List.mem_iff_getElem.1 hx
      have := ha i hi
      rw [List.getD_eq_getElem?_getD, List.getElem?_eq_getElem hi] at this
      rw [← e]
      exact this), List.nil_append]
    exact ⟨v, he, ho⟩
  · rw [firstNo_bad _ [] k hk ha hn]
    exact ⟨F, he, hF⟩
end Go.Proofs.YtcfnmjhelhdobaaGreatDoor
