/-
  The program's Lines: a text's lines, or the first byte that may not be. Conditions: lengths.
-/
import Derived.Test.YtcfnmjhelhdobaaGreatDoorLexY
namespace Go.Proofs.YtcfnmjhelhdobaaGreatDoor
open Go.RowKit Go.Shelf

attribute [local go_sem] Oper.semAt_some

theorem three_new (w : World) (o1 o2 o3 : Obj) : (((w.alloc o1).alloc o2).alloc o3).heap.size = w.heap.size + 3 ∧ (((w.alloc o1).alloc o2).alloc o3).heap[w.heap.size]? = some o1 ∧ (((w.alloc o1).alloc o2).alloc o3).heap[w.heap.size + 1]? = some o2 ∧ (((w.alloc o1).alloc o2).alloc o3).heap[w.heap.size + 2]? = some o3 ∧ Below w.heap.size w (((w.alloc o1).alloc o2).alloc o3) := by
  have a : ∀ (v : World) (o : Obj), Below v.heap.size v (v.alloc o) := fun v o => (Below.refl _ _).alloc (Nat.le_refl _) o
  have m1 := made_at w o1
  have m2 := made_at (w.alloc o1) o2
  have m3 := made_at ((w.alloc o1).alloc o2) o3
  simp only [World.size_alloc] at m2 m3
  exact ⟨by simp, later_at (a _ _) (later_at (a _ _) m1), later_at (a _ _) m2, m3, below_step (below_step (a _ _) (a _ _)) (a _ _)⟩
/-- The lines of the first k parts. -/
def outK (ps : List Wd) (k : Nat) : List (List Wd) := ((ps.take k).map fun x => wdsL (bl x.t) x.p).filter fun l => !l.isEmpty
theorem outK_next {ps : List Wd} {k : Nat} (hk : k < ps.length) : outK ps (k + 1) = if (wdsL (bl (ps.getD k ⟨.empty, 0⟩).t) (ps.getD k ⟨.empty, 0⟩).p).isEmpty then outK ps k else outK ps k ++ [wdsL (bl (ps.getD k ⟨.empty, 0⟩).t) (ps.getD k ⟨.empty, 0⟩).p] := by
  unfold outK
  rw [takes_next hk, List.map_append, List.filter_append]
  generalize ps.getD k ⟨.empty, 0⟩ = x
  by_cases h : (wdsL (bl x.t) x.p).isEmpty = true <;> simp [h]
theorem outK_all (s : ByteArray) : outK ((partsL 10 (bl s) 0).map mkW) ((partsL 10 (bl s) 0).map mkW).length = lnsL (bl s) := by
  unfold outK lnsL
  rw [List.take_length, List.map_map]
  rfl
theorem outK_few (ps : List Wd) (k : Nat) : (outK ps k).length ≤ ps.length := by
  unfold outK
  refine Nat.le_trans (List.length_filter_le _ _) ?_
  rw [List.length_map, List.length_take]
  omega

/-- What holds between two rounds. -/
def LnR (w : World) (out : List (List Wd)) (W : World) : Prop := ∃ lb vo vs, LRows 81 82 (w.heap.size + 5) lb [] out (.slice none 0 0) vo vs W ∧ W.heap[w.heap.size]? = some (.cells #[vo] 49 (0, 0)) ∧ Below w.heap.size w W
def LnI (w : World) (out : List (List Wd)) (W : World) : Prop := (out = [] ∧ W.heap[w.heap.size]? = some (.cells #[.slice none 0 0] 49 (0, 0)) ∧ Below w.heap.size w W) ∨ LnR w out W
section
variable {w W W' : World} {out : List (List Wd)}
theorem LnI.rows (h : LnI w out W) (hs : w.heap.size + 5 ≤ W.heap.size) : LnR w out W := by
  rcases h with ⟨rfl, h3, h4⟩ | h
  · exact ⟨_, _, _, LRows.nil _ _ _ _ hs, h3, h4⟩
  · exact h
theorem LnI.apart {all : Nat → Prop} (h : LnI w out W) (ha : Apart all W W') (h1 : ∀ q, all q → w.heap.size + 1 ≤ q ∧ q < w.heap.size + 5) : LnI w out W' := by
  rcases h with ⟨rfl, h3, h4⟩ | ⟨lb, vo, vs, h2, h3, h4⟩
  · exact .inl ⟨rfl, (ha.block _ (Array.getElem?_eq_some_iff.1 h3).1 (fun hx => by have := h1 _ hx; omega)).trans h3, h4.trans (ha.below (fun q hx => by have := h1 q hx; omega) h4.size)⟩
  · exact .inr ⟨lb, vo, vs, h2.agree ha.size (fun q hq hl => ha.block q hl (fun hx => by have := h1 q hx; omega)), (ha.block _ (Array.getElem?_eq_some_iff.1 h3).1 (fun hx => by have := h1 _ hx; omega)).trans h3, h4.trans (ha.below (fun q hx => by have := h1 q hx; omega) h4.size)⟩
theorem LnI.below (h : LnI w out W) (ha : Below W.heap.size W W') : LnI w out W' := by
  rcases h with ⟨rfl, h3, h4⟩ | ⟨lb, vo, vs, h2, h3, h4⟩
  · exact .inl ⟨rfl, later_at ha h3, below_step h4 ha⟩
  · exact .inr ⟨lb, vo, vs, h2.later ha, later_at ha h3, below_step h4 ha⟩
/-- What the variable holds at the end. -/
theorem LnI.lns (h : LnI w out W) {all : Nat → Prop} (ha : Apart all W W') (h1 : ∀ q, all q → w.heap.size + 1 ≤ q ∧ q < w.heap.size + 5) : ∃ A c, W.heap[w.heap.size]? = some (.cells #[.slice A out.length c] 49 (0, 0)) ∧ LnsAt W' A out ∧ Below w.heap.size w W' ∧ out.length ≤ c := by
  rcases h with ⟨rfl, h3, h4⟩ | ⟨lb, vo, vs, h2, h3, h4⟩
  · exact ⟨none, 0, h3, fun h => absurd h (by simp), h4.trans (ha.below (fun q hx => by have := h1 q hx; omega) h4.size), Nat.zero_le _⟩
  · have h2' := h2.agree ha.size (fun q hq hl => ha.block q hl (fun hx => by have := h1 q hx; omega))
    obtain ⟨A, c, rfl, h5, h6⟩ := h2'.lns
    exact ⟨A, c, h3, h5.lns, h4.trans (ha.below (fun q hx => by have := h1 q hx; omega) h4.size), h6⟩
end
theorem info_words : (Tryz.prog.info? 82).map (fun i => (i.zero, i.size, i.bytes)) = some (some (.slice none 0 0), 1, 24) := by kernel_rfl
theorem new_cell (A : World) (x : Value) (t : TypeId) : ∀ j u, [x][j]? = some u → (A.alloc (.cells #[x] t)).cell? ((⟨A.heap.size, 0, none⟩ : Addr).add j) = some u := by
  intro j u hu
  rcases j with _ | j
  · obtain rfl : x = u := by simpa using hu
    simp [go_sem, Addr.add]
  · simp at hu

theorem results_two {fn : Func} {p u : Tmp} (h : fn.results = #[.tmp p, .tmp u]) (tmps : Array Value) (P : Program) (w : World) : (results fn tmps).run P w = .ok (.tuple #[tmps.getD p undef, tmps.getD u undef]) w := by
  simp [results, h]
section
set_option maxHeartbeats 4000000 in
set_option maxRecDepth 100000 in
theorem lines_of (w : World) (s : ByteArray) (r : LxR) (hr : r = lexP s) : Calls Tryz.prog 16 #[.string s] w (LnsOut w r) := by
  have HR := Lib.hid hr
  clear hr
  have HBY := Lib.hid (byL_at s)
  refine (callsIn_wide (n := 5)).1 ?_
  refine callsIn_of_wp_marks Tryz.func16 rfl trivial ?_ rfl
  simp only [Tryz.ntmps16, List.size_toArray, List.length_cons, List.length_nil, Nat.reduceAdd, Nat.reduceSub, Array.replicate_succ, Array.replicate_zero, List.push_toArray, List.append_toArray, List.nil_append, List.cons_append]
  by_cases hlong : 600 < s.size
  · have HF := Lib.hid (fun A : World => fault_is A 600 16)
    have HRL := Lib.hid (HR.out.trans (lexP_long hlong))
    gi_wp2
    refine ⟨trivial, (callsIn_wide.2 (HF.out w)).mono ?_⟩
    rintro e W2 ⟨F, rfl, hF, hF2, hb2⟩
    have KF := Lib.hid hF
    have KB := Lib.hid hb2
    clear hF hb2
    unfold fltV
    gi_wp2
    refine ⟨_, results_two rfl _ _ _, KB.out, ?_⟩
    rw [HRL.out]
    exact ⟨none, 0, F, rfl, KF.out⟩
  · gi_wp2
    gi_loopw [14] (fun i wr => ∃ k : Nat, i = .int .i64 k ∧ k ≤ s.size ∧ w = wr ∧ ∀ j, j < k → okB (byL s j)) (fun i _ => s.size - (intOf i).toNat)
    case atStart => exact ⟨0, rfl, Nat.zero_le _, rfl, fun j h => absurd h (by omega)⟩
    case round =>
      obtain ⟨k, rfl, hk, rfl, hall⟩ := hrel
      have HALL := Lib.hid hall
      clear hall
      by_cases hlt : k < s.size
      · have hB : ∀ h : k < s.size, ((s[k]'h).toNat : Int) = byL s k := HBY.out k
        by_cases hok : okB (byL s k)
        · have HM := Lib.hid (fun A : World => may_is A (byL s k) true ⟨fun _ => hok, fun _ => rfl⟩)
          have HOK := Lib.hid hok
          clear hok
          gi_wp2
          refine ⟨trivial, (callsIn_wide.2 (HM.out _)).mono ?_⟩
          rintro e W' ⟨rfl, rfl⟩
          gi_wp2
          go_roundw
          case rel => exact ⟨k + 1, by go_num, by omega, trivial, fun j hj => by
            rcases Nat.lt_or_ge j k with h | h
            · exact HALL.out j h
            · obtain rfl : j = k := by omega
              exact HOK.out⟩
          case measure => simp [intOf]; omega
        · have HM := Lib.hid (fun A : World => may_is A (byL s k) false ⟨fun h => absurd h (by decide), fun h => absurd h hok⟩)
          have HF := Lib.hid (fun A : World => fault_is A k 3)
          have HRL := Lib.hid (HR.out.trans (lexP_stands (by omega) hlt hok HALL.out))
          clear hok
          gi_wp2
          refine ⟨trivial, (callsIn_wide.2 (HM.out _)).mono ?_⟩
          rintro e W' ⟨rfl, rfl⟩
          gi_wp2
          refine ⟨trivial, (callsIn_wide.2 (HF.out _)).mono ?_⟩
          rintro e W2 ⟨F, rfl, hF, hF2, hb2⟩
          have KF := Lib.hid hF
          have KB := Lib.hid hb2
          clear hF hb2
          unfold fltV
          gi_wp2
          refine ⟨_, results_two rfl _ _ _, KB.out, ?_⟩
          rw [HRL.out]
          exact ⟨none, 0, F, rfl, KF.out⟩
      · obtain rfl : k = s.size := by omega
        have HRL := Lib.hid (HR.out.trans (lexP_lines (by omega) HALL.out))
        have HP := Lib.hid (fun W : World => parts_is W s 0 10)
        gi_wp2
        refine ⟨trivial, (callsIn_wide.2 (HP.out _)).mono ?_⟩
        rintro e w1 ⟨rfl, hw1⟩
        gi_wp2
        rw [← hw1]
        obtain ⟨hsz, hV, hB, hS, hbel⟩ := three_new w (.cells #[.slice none 0 0] 49) (.cells #[.string s, .int .i64 0] 81) (.cells #[.int .u8 10] 5)
        rw [← hw1] at hsz hV hB hS hbel
        clear hw1 HP hk hlt HALL HBY HR
        obtain ⟨ps, hps⟩ : ∃ ps, ps = (partsL 10 (bl s) 0).map mkW := ⟨_, rfl⟩
        have hit := parts_iter (w := w1) (s := s) (p := 0) (B := w.heap.size + 1) (c := 10) 4 (by omega) hB hS (by omega)
        rw [← hps] at hit
        have hall := outK_all s
        rw [← hps] at hall
        have HPS := Lib.hid hps
        have HOA := Lib.hid hall
        clear hps hall
        refine wpIn_range rfl (by omega) (gf := 57) (lb := #[.pointer (some ⟨w.heap.size + 1, 0, none⟩), .pointer (some ⟨w.heap.size + 1 + 1, 0, none⟩)]) rfl trivial (enters_of Tryz.func57 (by kernel_rfl) rfl)
          (bad := ownB (w.heap.size + 1)) (all := fun q => ownB (w.heap.size + 1) q ∨ q = w1.heap.size ∨ q = w1.heap.size + 1) (encs := encW ps) (N := ps.length) (fun q hq => by unfold ownB at hq; omega) (fun _ => Iff.rfl) hit (fun _ => rfl)
          (fun k W => LnI w (outK ps k) W) (fun _ => False)
          (fun k a' W => LnI w (outK ps k) W ∧ ∃ BX, w.heap.size + 5 ≤ BX ∧ W.heap[BX]? = some (.cells #[.string (ps.getD k ⟨.empty, 0⟩).t, .int .i64 (ps.getD k ⟨.empty, 0⟩).p] 81 (0, 0)) ∧
            a' = { tmps := #[.string s, undef, u2, u3, u4, .pointer (some ⟨w.heap.size, 0, none⟩), .pointer (some ⟨BX, 0, none⟩), undef, .string s, .int .i64 s.size, .bool (decide (600 < (s.size : Int))), undef, .string s, .int .i64 s.size, .int .i64 s.size, .bool false, u16, u17, u18, u19, u20, u21, u22, u23, u24, .string s, .agg #[.string s, .int .i64 0], .func (.func 57) #[] #[.pointer (some ⟨w.heap.size + 1, 0, none⟩), .pointer (some ⟨w.heap.size + 1 + 1, 0, none⟩)], wdV (ps.getD k ⟨.empty, 0⟩).t (ps.getD k ⟨.empty, 0⟩).p, undef, undef, undef, undef, undef, undef, undef, undef, undef, undef], defers := [] })
          (fun k A B h ha => h.apart ha (fun q hq => by unfold ownB at hq; omega)) (fun _ _ h _ => h) ?hAx (.inl ⟨by unfold outK; simp, hV, hbel⟩) ?assign ?body ?done ?stop
        case hAx =>
          rintro k a' A B ⟨h, BX, h1, h2, h3⟩ ha
          exact ⟨h.apart ha (fun q hq => by unfold ownB at hq; omega), BX, h1, (ha.block BX (Array.getElem?_eq_some_iff.1 h2).1 (fun hx => by unfold ownB at hx; omega)).trans h2, h3⟩
        case assign =>
          intro k W hk hs hI
          unfold encW
          generalize ps.getD k ⟨.empty, 0⟩ = x
          gi_wp2
          have hb : Below W.heap.size W (W.alloc (.cells #[.string x.t, .int .i64 x.p] 81)) := (Below.refl _ _).alloc (Nat.le_refl _) _
          exact ⟨Keeps.of_below hb, hI.below hb, W.heap.size, by omega, made_at _ _, rfl⟩
        case body =>
          rintro k a' W hk hs2 ⟨hI, BX, hBX, hx, rfl⟩
          have hto := outK_next hk
          have hfit := part_fits HPS.out hk
          generalize ps.getD k ⟨.empty, 0⟩ = x at hx hto hfit ⊢
          have x0 := cellH hx 0
          have x1 := cellH hx 1
          simp at x0 x1
          have HW := Lib.hid (fun A : World => words_of A x.t x.p (by omega))
          obtain ⟨L, hL⟩ : ∃ L, L = wdsL (bl x.t) x.p := ⟨_, rfl⟩
          rw [← hL] at HW hto
          have HI := Lib.hid hI
          have HT := Lib.hid hto
          clear hI hto hx hL
          gi_wp2
          refine ⟨trivial, (CallsIn.inRound _ (callsIn_wide.2 (HW.out W))).mono ?_⟩
          rintro e W2 ⟨v, rfl, hown, hb2⟩
          obtain ⟨A0, c0, rfl⟩ := own_slc hown
          have HOW := Lib.hid hown
          have HB2 := Lib.hid hb2
          clear hown hb2 HW
          by_cases hLn : L = []
          · subst hLn
            gi_wp2
            refine ⟨Keeps.of_below HB2.out, ?_⟩
            show LnI w (outK ps (k + 1)) _
            rw [HT.out]
            exact HI.out.below HB2.out
          · obtain ⟨lb, vo, vs, hR, hV2, hbw⟩ := HI.out.rows (by omega)
            have hLe : L.isEmpty = false := by
              cases hLL : L with
              | nil => exact absurd hLL hLn
              | cons => rfl
            have hT2 := HT.out
            rw [hLe] at hT2
            have HT2 := Lib.hid hT2
            have hR2 := hR.later HB2.out
            have hrb := hR.rb
            have hR3 : LRows 81 82 (w.heap.size + 5) lb L (outK ps k) (.slice A0 L.length c0) vo vs W2 := ⟨own_base HOW.out hrb.2, hR2.ro, hR2.rd, hR2.rb⟩
            have hA := (Below.refl W2.heap.size W2).alloc (Nat.le_refl _) (.cells #[.slice A0 L.length c0] 82)
            have hR4 := hR3.later hA
            have hV3 := later_at HB2.out hV2
            have hV4 := later_at hA hV3
            have z0 := cellH hV3 0
            simp at z0
            have hbw4 := below_step (below_step hbw HB2.out) hA
            have hlp : 0 < L.length := List.length_pos_iff.2 hLn
            have hlz : (0 : Int) < (L.length : Int) := by omega
            have hfew := outK_few ps k
            have hpl : ps.length ≤ 1000001 := by
              have := parts_few (c := 10) (bl s) 0
              rw [bl_len] at this
              have h9 : ps.length = (partsL 10 (bl s) 0).length := by rw [HPS.out, List.length_map]
              omega
            have hvs : vs.length = (outK ps k).length := by have := hR.ro.1; omega
            have HV4 := Lib.hid hV4
            have HR4 := Lib.hid hR4
            have HBW4 := Lib.hid hbw4
            have HLN := Lib.hid hLn
            have HA4 := Lib.hid hA
            have hsz2 := hbw4.size
            simp at hsz2
            obtain ⟨i0, hi, hz0, hz1, hz2⟩ := info_parts info_words
            have HNEW := Lib.hid (new_cell W2 (.slice A0 L.length c0) 82)
            clear hT2 hR hR2 hR3 hV2 hV3 hV4 hbw hbw4 hR4 hA hLe hLn HT HI HOW hvs
            gi_wp2_with (gi_at_builtin; refine wpListIn_append_own _ rfl (.tmp 34) (.tmp 36) 49 rfl (w.heap.size + 5) 82 i0 _ 1 24 Tryz.underlying49 hi hz0 hz1 hz2 rfl (by omega) vo _ _ rfl HR4.out.ro ⟨W2.heap.size, 0, none⟩ 1 1 [.slice A0 L.length c0] rfl rfl HNEW.out (by intro u hu; obtain rfl := List.mem_singleton.1 hu; rfl) (by unfold maxLen; omega) (by omega) (by have := HR4.out.rb; omega) ?_; intro v3 W4 hown4 hg4 _; obtain ⟨g4, c4, rfl⟩ := ownsRow_succ hown4; have hVC := row_more (T := 49) (E := 82) (by decide) HV4.out HR4.out.ro hg4; have HG := Lib.hid hg4; have HO4 := Lib.hid hown4; have HVC := Lib.hid hVC; have q0 := cellH hVC 0; have q1 := freeH hVC 0; simp at q0; clear hown4 hg4 hVC)
            refine ⟨(((Keeps.of_below HB2.out).trans (Keeps.of_below HA4.out)).trans (Keeps.grown HG.out (fun q hq _ e => by have := (own_tag HR4.out.ro e.symm).1; unfold ownB at hq; omega))).trans (Keeps.set (fun q hq _ e => by unfold ownB at hq; omega)), ?_⟩
            show LnI w (outK ps (k + 1)) _
            rw [HT2.out, if_neg (by decide)]
            have hnx := (HR4.out.next (by decide) HLN.out HG.out HO4.out).set (B := w.heap.size) (i := 0) (by omega) (.slice (some ⟨g4, 0, none⟩) ((outK ps k).length + 1) c4)
            exact .inr ⟨_, _, _, hnx, row_set HVC.out, (HBW4.out.grown HG.out HBW4.out.size (fun g e => by have := (own_tag HR4.out.ro e).1; omega)).setCell (p := ⟨w.heap.size, 0, none⟩) (Nat.le_refl _) _⟩
        case done =>
          intro W hI hD
          obtain ⟨A0, c0, hV2, hL2, hb2, hcp2⟩ := hI.lns (Apart.put (bad := fun q => q = w1.heap.size) (l := w1.heap.size) (o := .deferred none) rfl) (fun q hq => by omega)
          have z0 := cellH hV2 0
          simp at z0
          obtain ⟨N, hNN⟩ : ∃ N, N = (outK ps ps.length).length := ⟨_, rfl⟩
          rw [← hNN] at z0
          have HNN := Lib.hid hNN
          have HL := Lib.hid hL2
          have HCP := Lib.hid hcp2
          have HB := Lib.hid hb2
          clear hI hV2 hL2 hb2 hNN hcp2
          gi_wp2
          refine ⟨by simp, .inl ⟨_, _, rfl, run_takeDeferred hD, ?_⟩⟩
          refine ⟨_, results_two rfl _ _ _, HB.out, ?_⟩
          rw [HRL.out, ← HOA.out]
          exact ⟨A0, c0, by rw [← HNN.out]; rfl, HL.out, HCP.out⟩
        case stop => exact fun _ h => h.elim
end
end Go.Proofs.YtcfnmjhelhdobaaGreatDoor
