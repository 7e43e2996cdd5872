/-
  The program's wordsOf: a line's words. Conditions: lengths.
-/
import Derived.Test.YtcfnmjhelhdobaaGreatDoorLexJ
import Derived.Test.YtcfnmjhelhdobaaGreatDoorSix
namespace Go.Proofs.YtcfnmjhelhdobaaGreatDoor
open Go.RowKit Go.Shelf

attribute [local go_sem] Oper.semAt_some

/-- What holds between two rounds: the variable holds a slice of the words so far, in a row of the call's own. -/
def WrdI (w : World) (V b : Nat) (l : List Wd) (W : World) : Prop := ∃ v, W.heap[V]? = some (.cells #[v] 82 (0, 0)) ∧ W.ownsRow b 81 2 v l.length (wdCells l) ∧ Below w.heap.size w W
theorem own_base {base base2 : Nat} {e : TypeId} {size n : Nat} {v : Value} {xs : List Value} {W : World} (h : W.ownsRow base e size v n xs) (hb : base2 ≤ base) : W.ownsRow base2 e size v n xs := by
  obtain ⟨hl, h⟩ := h
  refine ⟨hl, h.imp id ?_⟩
  rintro ⟨q, cap, cur, rfl, hq, h1⟩
  exact ⟨q, cap, cur, rfl, Nat.le_trans hb hq, h1⟩
section
variable {w W W' : World} {V b : Nat} {l : List Wd}
theorem WrdI.apart {all : Nat → Prop} (h : WrdI w V b l W) (ha : Apart all W W') (h1 : ∀ q, all q → q < b ∧ q ≠ V ∧ w.heap.size ≤ q) : WrdI w V b l W' := by
  obtain ⟨v, hv, ho, hb⟩ := h
  refine ⟨v, (ha.block V (Array.getElem?_eq_some_iff.1 hv).1 (fun hx => (h1 V hx).2.1 rfl)).trans hv, own_agree ho (fun q hq hl => ha.block q hl (fun hx => by have := (h1 q hx).1; omega)), hb.trans (ha.below (fun q hx => (h1 q hx).2.2) hb.size)⟩
theorem WrdI.below (h : WrdI w V b l W) (ha : Below W.heap.size W W') : WrdI w V b l W' := by
  obtain ⟨v, hv, ho, hb⟩ := h
  exact ⟨v, later_at ha hv, own_agree ho (fun q _ hl => ha.block q hl), below_step hb ha⟩
end
theorem four_new (w : World) (o1 o2 o3 o4 : Obj) : ((((w.alloc o1).alloc o2).alloc o3).alloc o4).heap.size = w.heap.size + 4 ∧ ((((w.alloc o1).alloc o2).alloc o3).alloc o4).heap[w.heap.size + 1]? = some o2 ∧ ((((w.alloc o1).alloc o2).alloc o3).alloc o4).heap[w.heap.size + 2]? = some o3 ∧
    ((((w.alloc o1).alloc o2).alloc o3).alloc o4).heap[w.heap.size + 3]? = some o4 ∧ Below w.heap.size w ((((w.alloc o1).alloc o2).alloc o3).alloc o4) := by
  have a : ∀ (v : World) (o : Obj), Below v.heap.size v (v.alloc o) := fun v o => (Below.refl _ _).alloc (Nat.le_refl _) o
  have m2 := made_at (w.alloc o1) o2
  have m3 := made_at ((w.alloc o1).alloc o2) o3
  have m4 := made_at (((w.alloc o1).alloc o2).alloc o3) o4
  simp only [World.size_alloc] at m2 m3 m4
  exact ⟨by simp, later_at (a _ _) (later_at (a _ _) m2), later_at (a _ _) m3, m4, below_step (below_step (below_step (a _ _) (a _ _)) (a _ _)) (a _ _)⟩
theorem part_fits {c : UInt8} {s : ByteArray} {p k : Nat} {ps : List Wd} (hps : ps = (partsL c (bl s) p).map mkW) (hk : k < ps.length) : p ≤ (ps.getD k ⟨.empty, 0⟩).p ∧ (ps.getD k ⟨.empty, 0⟩).p + (ps.getD k ⟨.empty, 0⟩).t.size ≤ p + s.size := by
  have hm : ps.getD k ⟨.empty, 0⟩ ∈ ps := by
    rw [List.getD_eq_getElem?_getD, List.getElem?_eq_getElem hk]
    exact List.getElem_mem hk
  rw [hps] at hm ⊢
  obtain ⟨y, hy, e⟩ := List.mem_map.1 hm
  have := parts_in _ _ _ hy
  rw [bl_len] at this
  rw [← e]
  simpa [mkW, ofL_size] using this
theorem info_wordZ : (Tryz.prog.info? 81).map (fun i => (i.zero, i.size, i.bytes)) = some (some (.agg #[.string ⟨#[]⟩, .int .i64 0]), 2, 24) := by kernel_rfl
theorem new_word (A : World) (x : Wd) : ∀ j u, (wdC x)[j]? = some u → (A.alloc (.cells #[.string x.t, .int .i64 x.p] 81)).cell? ((⟨A.heap.size, 0, none⟩ : Addr).add j) = some u := by
  intro j u hu
  have h := made_at A (.cells #[.string x.t, .int .i64 x.p] 81)
  have hadd : (⟨A.heap.size, 0, none⟩ : Addr).add j = ⟨A.heap.size, j, none⟩ := by unfold Addr.add; split <;> simp_all
  rw [hadd, cellH h j]
  rcases j with _ | _ | j
  · simpa [wdC] using hu
  · simpa [wdC] using hu
  · simp [wdC] at hu
/-- A variable that holds a row's slice lies as it lay where the row has grown. -/
theorem row_more {A C : World} {V base : Nat} {v : Value} {cs : Array Value} {T E : TypeId} {size n : Nat} {xs : List Value} (hTE : T ≠ E) (hv : A.heap[V]? = some (.cells cs T (0, 0))) (ho : A.ownsRow base E size v n xs) (hg : A.grownBy C v.ownBlock) : C.heap[V]? = some (.cells cs T (0, 0)) := by
  refine (hg.block V (Array.getElem?_eq_some_iff.1 hv).1 (fun e => ?_)).trans hv
  obtain ⟨_, cur, h⟩ := own_tag ho e.symm
  rw [hv] at h
  injection h with h
  injection h with _ h
  exact hTE h
theorem own_slc {A : World} {base : Nat} {v : Value} {E : TypeId} {size n : Nat} {xs : List Value} (ho : A.ownsRow base E size v n xs) : ∃ B c, v = .slice B n c := by
  rcases ho.2 with ⟨rfl, e⟩ | ⟨q, cap, cur, rfl, _⟩
  · exact ⟨none, 0, by rw [e]⟩
  · exact ⟨_, cap, rfl⟩
theorem take_one {ps : List Wd} {k : Nat} (hk : k < ps.length) : (ps.take (k + 1)).filter some_ = if some_ (ps.getD k ⟨.empty, 0⟩) then (ps.take k).filter some_ ++ [ps.getD k ⟨.empty, 0⟩] else (ps.take k).filter some_ := by
  rw [List.take_add_one, List.filter_append, List.getD_eq_getElem?_getD, List.getElem?_eq_getElem hk]
  simp only [Option.toList_some, Option.getD_some, List.filter_cons, List.filter_nil]
  split <;> simp

section
variable {w : World}
set_option maxHeartbeats 2000000 in
set_option maxRecDepth 100000 in
theorem words_of (w : World) (t : ByteArray) (p : Nat) (hl : p + t.size ≤ 1000000) : Calls Tryz.prog 35 #[wdV t p] w fun e w' => ∃ v, e = .returned v ∧ w'.ownsRow w.heap.size 81 2 v (wdsL (bl t) p).length (wdCells (wdsL (bl t) p)) ∧ Below w.heap.size w w' := by
  refine (callsIn_wide (n := 5)).1 ?_
  refine callsIn_of_wp_marks Tryz.func35 rfl trivial ?_ rfl
  simp only [Tryz.ntmps35, List.size_toArray, List.length_cons, List.length_nil, Nat.reduceAdd, Nat.reduceSub, Array.replicate_succ, Array.replicate_zero, List.push_toArray, List.append_toArray, List.nil_append, List.cons_append]
  have HP := Lib.hid (fun W : World => parts_is W t p 32)
  gi_wp2
  refine ⟨trivial, (callsIn_wide.2 (HP.out _)).mono ?_⟩
  rintro e w1 ⟨rfl, hw1⟩
  gi_wp2
  rw [← hw1]
  obtain ⟨hsz, hV, hB, hS, hbel⟩ := four_new w (.cells #[.string t, .int .i64 p] 81) (.cells #[.slice none 0 0] 82) (.cells #[.string t, .int .i64 p] 81) (.cells #[.int .u8 32] 5)
  rw [← hw1] at hsz hV hB hS hbel
  clear hw1 HP
  obtain ⟨ps, hps⟩ : ∃ ps, ps = (partsL 32 (bl t) p).map mkW := ⟨_, rfl⟩
  have hit := parts_iter (w := w1) (s := t) (p := p) (B := w.heap.size + 2) (c := 32) 4 (by omega) hB hS (by omega)
  rw [← hps] at hit
  refine wpIn_range rfl (by omega) (gf := 57) (lb := #[.pointer (some ⟨w.heap.size + 2, 0, none⟩), .pointer (some ⟨w.heap.size + 2 + 1, 0, none⟩)]) rfl trivial (enters_of Tryz.func57 (by kernel_rfl) rfl)
    (bad := ownB (w.heap.size + 2)) (all := fun q => ownB (w.heap.size + 2) q ∨ q = w1.heap.size ∨ q = w1.heap.size + 1) (encs := encW ps) (N := ps.length) (fun q hq => by unfold ownB at hq; omega) (fun _ => Iff.rfl) hit (fun _ => rfl)
    (fun k W => WrdI w (w.heap.size + 1) (w.heap.size + 6) ((ps.take k).filter some_) W) (fun _ => False)
    (fun k a' W => WrdI w (w.heap.size + 1) (w.heap.size + 6) ((ps.take k).filter some_) W ∧ ∃ BX, w.heap.size + 6 ≤ BX ∧ W.heap[BX]? = some (.cells #[.string (ps.getD k ⟨.empty, 0⟩).t, .int .i64 (ps.getD k ⟨.empty, 0⟩).p] 81 (0, 0)) ∧
      a' = { tmps := #[wdV t p, .pointer (some ⟨w.heap.size, 0, none⟩), .slice none 0 0, .pointer (some ⟨w.heap.size + 1, 0, none⟩), .pointer (some ⟨BX, 0, none⟩), .agg #[.string t, .int .i64 p], .func (.func 57) #[] #[.pointer (some ⟨w.heap.size + 1 + 1, 0, none⟩), .pointer (some ⟨w.heap.size + 1 + 1 + 1, 0, none⟩)], wdV (ps.getD k ⟨.empty, 0⟩).t (ps.getD k ⟨.empty, 0⟩).p, undef, undef, undef, undef, undef, undef, undef, undef, undef], defers := [] })
    (fun k A B h ha => h.apart ha (fun q hq => by unfold ownB at hq; omega)) (fun _ _ h _ => h) ?hAx ⟨.slice none 0 0, hV, World.ownsRow_nil _ _ _ _, hbel⟩ ?assign ?body ?done ?stop
  case hAx =>
    rintro k a' A B ⟨h, BX, h1, h2, h3⟩ ha
    exact ⟨h.apart ha (fun q hq => by unfold ownB at hq; omega), BX, h1, (ha.block BX (Array.getElem?_eq_some_iff.1 h2).1 (fun hx => by unfold ownB at hx; omega)).trans h2, h3⟩
  case assign =>
    intro k W hk hs hI
    unfold encW
    generalize ps.getD k ⟨.empty, 0⟩ = x
    gi_wp2
    have hb : Below W.heap.size W (W.alloc (.cells #[.string x.t, .int .i64 x.p] 81)) := (Below.refl _ _).alloc (Nat.le_refl _) _
    exact ⟨Keeps.of_below hb, hI.below hb, W.heap.size, by omega, made_at _ _, rfl⟩
  case body =>
    rintro k a' W hk hs ⟨hI, BX, hBX, hx, rfl⟩
    have hto := take_one hk
    have hfit := part_fits hps hk
    generalize ps.getD k ⟨.empty, 0⟩ = x at hx hto hfit ⊢
    have x0 := cellH hx 0
    have x1 := cellH hx 1
    simp at x0 x1
    by_cases h0 : x.t.size = 0
    · have e0 : x.t.toList.isEmpty = true := by rw [size_zero.1 h0, Go.ByteArray.toList_eq]; rfl
      have hs2 : some_ x = false := by unfold some_; rw [h0]; rfl
      rw [hs2] at hto
      have HI := Lib.hid hI
      have HT := Lib.hid hto
      clear h0 hs2 hI hto
      gi_wp2
      exact ⟨Keeps.refl _ _, by rw [HT.out]; exact HI.out⟩
    · have e0 : x.t.toList.isEmpty = false := ba_some (fun h => h0 (size_zero.2 h))
      have hs2 : some_ x = true := by unfold some_; simp [h0]
      rw [hs2] at hto
      have HT := Lib.hid hto
      obtain ⟨v, hv, ho, hb⟩ := hI
      have v0 := cellH hv 0
      simp at v0
      have HV := Lib.hid hv
      have HO := Lib.hid ho
      have HB := Lib.hid hb
      have HX := Lib.hid hx
      clear h0 hs2 hto hv ho hb hx
      gi_wp2
      have cells : ∀ A, Below W.heap.size W A → A.cell? ⟨w.heap.size + 1, 0, none⟩ = some v ∧ A.cell? ⟨BX, 0, none⟩ = some (.string x.t) ∧ A.cell? ⟨BX, 1, none⟩ = some (.int .i64 x.p) := fun A hA => ⟨cell_later hA v0, cell_later hA x0, cell_later hA x1⟩
      have HC := Lib.hid cells
      have HOW := Lib.hid (fun A : World => own_is A x.t x.p (by omega))
      clear cells v0 x0 x1
      refine six_orders (S := fun A => Below W.heap.size W A) 11 12 13 14 v (wdV x.t x.p) (wdV x.t x.p) (fun h => .slice (some ⟨h, 0, none⟩) 1 1) (o := .cells #[.string x.t, .int .i64 x.p] 81) rfl (by kernel_rfl) (by kernel_rfl) (by kernel_rfl) (by kernel_rfl) (by kernel_rfl) (by kernel_rfl) (by kernel_rfl) (by kernel_rfl) (by kernel_rfl) (by kernel_rfl) (by kernel_rfl) (by decide) (by decide) (by decide) ?s0 ?s1 ?s01 ?s10 ?s12 ?s012 ?s120 ?s123 ?s0123 ?s1230 ?s4 (Below.refl _ _).drew
      case s0 =>
        intro K A hA hK
        obtain ⟨y0, y1, y2⟩ := HC.out A hA
        refine wpOpIn_step rfl fun K' hK' => ?_
        go_simp
        exact hK' _ _ hK
      case s1 =>
        intro K A hA hK
        obtain ⟨y0, y1, y2⟩ := HC.out A hA
        refine wpOpIn_step rfl fun K' hK' => ?_
        go_simp
        exact hK' _ _ hK
      case s01 =>
        intro K A hA hK
        obtain ⟨y0, y1, y2⟩ := HC.out A hA
        refine wpOpIn_step rfl fun K' hK' => ?_
        go_simp
        exact hK' _ _ hK
      case s10 =>
        intro K A hA hK
        obtain ⟨y0, y1, y2⟩ := HC.out A hA
        refine wpOpIn_step rfl fun K' hK' => ?_
        go_simp
        exact hK' _ _ hK
      case s12 =>
        intro K A hA hK
        refine wpOpIn_step rfl fun K' hK' => ?_
        go_simp
        refine ⟨trivial, (CallsIn.inRound _ (callsIn_wide.2 (HOW.out A))).mono ?_⟩
        rintro e B ⟨rfl, hB⟩
        exact hK' _ _ (hK B (below_step hA hB))
      case s012 =>
        intro K A hA hK
        refine wpOpIn_step rfl fun K' hK' => ?_
        go_simp
        refine ⟨trivial, (CallsIn.inRound _ (callsIn_wide.2 (HOW.out A))).mono ?_⟩
        rintro e B ⟨rfl, hB⟩
        exact hK' _ _ (hK B (below_step hA hB))
      case s120 =>
        intro K A hA hK
        obtain ⟨y0, y1, y2⟩ := HC.out A hA
        refine wpOpIn_step rfl fun K' hK' => ?_
        go_simp
        exact hK' _ _ hK
      case s123 =>
        intro K A hA hK
        refine wpOpIn_step rfl fun K' hK' => ?_
        go_simp
        exact hK' _ _ hK
      case s0123 =>
        intro K A hA hK
        refine wpOpIn_step rfl fun K' hK' => ?_
        go_simp
        exact hK' _ _ hK
      case s1230 =>
        intro K A hA hK
        obtain ⟨y0, y1, y2⟩ := HC.out _ (hA.alloc hA.size (.cells #[.string x.t, .int .i64 x.p] 81))
        refine wpOpIn_step rfl fun K' hK' => ?_
        go_simp
        exact hK' _ _ hK
      case s4 =>
        intro A hA
        have hA2 := hA.alloc hA.size (.cells #[.string x.t, .int .i64 x.p] 81)
        have hvA := later_at hA2 HV.out
        have hoA := own_agree HO.out (fun q _ hl => hA2.block q hl)
        have hbA := below_step HB.out hA2
        have hnews := new_word A x
        have hsA := hA.size
        have hfl : ((ps.take k).filter some_).length ≤ 1000001 := by
          refine Nat.le_trans (List.length_filter_le _ _) ?_
          rw [List.length_take]
          have := parts_few (c := 32) (bl t) p
          rw [bl_len] at this
          have h9 : ps.length = (partsL 32 (bl t) p).length := by rw [hps, List.length_map]
          omega
        clear HC HOW hps
        obtain ⟨i0, hi, hz0, hz1, hz2⟩ := info_parts info_wordZ
        refine opIn_append_own _ rfl rfl (.tmp 11) (.tmp 14) 82 rfl (w.heap.size + 6) 81 i0 _ 2 24 Tryz.underlying82 hi hz0 hz1 hz2 rfl (by omega) v _ _ rfl hoA ⟨A.heap.size, 0, none⟩ 1 1 (wdC x) rfl rfl hnews (by intro u hu; simp [wdC] at hu; rcases hu with rfl | rfl <;> rfl) ?_ ?_ (by simp; omega) ?_
        · unfold maxLen; omega
        · omega
        intro v2 C hown2 hg
        have hvC := row_more (T := 82) (by decide) hvA hoA hg
        have hkG : Keeps (fun q => ownB (w.heap.size + 2) q ∨ q = w1.heap.size ∨ q = w1.heap.size + 1) (A.alloc (.cells #[.string x.t, .int .i64 x.p] 81)) C := Keeps.grown hg (fun q hq _ e => by
          have := (own_tag hoA e.symm).1
          unfold ownB at hq
          omega)
        have hbC := hbA.grown hg hbA.size (fun g e => by have := (own_tag hoA e).1; omega)
        obtain ⟨g2, c2, rfl⟩ := ownsRow_succ hown2
        have HO2 := Lib.hid hown2
        have HVC := Lib.hid hvC
        have HKG := Lib.hid hkG
        have HBC := Lib.hid hbC
        have z0 := cellH hvC 0
        have f0 := freeH hvC 0
        simp at z0
        clear hown2 hg hvC hkG hbC hoA hbA hvA hi hz0 hz1 hz2
        refine wpOpIn_step rfl fun K' hK' => ?_
        go_simp
        refine hK' _ _ ⟨?_, ?_⟩
        · exact ((Keeps.of_below hA2).trans HKG.out).trans (Keeps.set (fun q hq _ e => by unfold ownB at hq; omega))
        · show WrdI _ _ _ ((ps.take (k + 1)).filter some_) _
          rw [HT.out, if_pos trivial]
          refine ⟨_, row_set HVC.out, ?_, HBC.out.setCell (p := ⟨w.heap.size + 1, 0, none⟩) (by show w.heap.size ≤ w.heap.size + 1; omega) _⟩
          rw [List.length_append, wdCells_add, wdCells_one]
          exact own_agree HO2.out (fun q hq _ => Below.heap_setCell C ⟨w.heap.size + 1, 0, none⟩ _ q (by show q ≠ w.heap.size + 1; omega))
  case done =>
    intro W hI hD
    obtain ⟨v, hv, ho, hb⟩ := hI
    have v0 := cellH hv 0
    simp at v0
    have HO := Lib.hid ho
    have HB := Lib.hid hb
    clear hv ho hb
    gi_wp2
    refine ⟨by simp, .inl ⟨_, _, rfl, run_takeDeferred hD, ?_⟩⟩
    refine ⟨_, results_tmp rfl _ _ _, v, rfl, ?_, ?_⟩
    · have e : wdsL (bl t) p = (ps.take ps.length).filter some_ := by rw [List.take_length, hps]; rfl
      rw [e]
      exact own_base (own_agree HO.out (fun q hq _ => World.putObj_heap_other (by omega))) (by omega)
    · exact HB.out.trans ((Apart.put (bad := fun q => q = w1.heap.size) rfl).below (fun q hq => by omega) HB.out.size)
  case stop => exact fun _ h => h.elim
end
end Go.Proofs.YtcfnmjhelhdobaaGreatDoor
