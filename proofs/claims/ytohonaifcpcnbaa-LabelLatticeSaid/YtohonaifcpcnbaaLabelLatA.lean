/-
  The law LabelLattice, walked: for any three labels it answers true, and leaves all memory that was there as it was. Condition: each Set is a number from 0 to 65535.
-/
import Derived.Test.YtohonaifcpcnbaaLabelH
import Derived.Test.YtohonaifcpcnbaaLabelX
import Derived.OpenShut
import Derived.Deep.DeepCutAuto
namespace Go.Proofs.Ytohonaifcpcnbaa
open Go.RowKit

theorem below_more {w a : World} (h : Below w.heap.size w a) (o : Obj) : Below w.heap.size w (a.alloc o) := h.alloc h.size o

/-- What stands in memory in the middle of the law: the three labels, their join and their meet. -/
structure LatW (w : World) (l s m t n u : Int) (g h : Nat) (wx : World) : Prop where
  a0 : wx.cell? ⟨w.heap.size, 0, none⟩ = some (.int .i64 l)
  a1 : wx.cell? ⟨w.heap.size, 1, none⟩ = some (.int .u16 s)
  b0 : wx.cell? ⟨w.heap.size + 1, 0, none⟩ = some (.int .i64 m)
  b1 : wx.cell? ⟨w.heap.size + 1, 1, none⟩ = some (.int .u16 t)
  c0 : wx.cell? ⟨w.heap.size + 1 + 1, 0, none⟩ = some (.int .i64 n)
  c1 : wx.cell? ⟨w.heap.size + 1 + 1, 1, none⟩ = some (.int .u16 u)
  j0 : wx.cell? ⟨g, 0, none⟩ = some (.int .i64 (mxI l m))
  j1 : wx.cell? ⟨g, 1, none⟩ = some (.int .u16 (orS s t))
  m0 : wx.cell? ⟨h, 0, none⟩ = some (.int .i64 (mnI l m))
  m1 : wx.cell? ⟨h, 1, none⟩ = some (.int .u16 (andS s t))
  bel : Below w.heap.size w wx
theorem LatW.later {w wx wn : World} {l s m t n u : Int} {g h : Nat} (x : LatW w l s m t n u g h wx) (hb : Below wx.heap.size wx wn) : LatW w l s m t n u g h wn :=
  ⟨cell_later hb x.a0, cell_later hb x.a1, cell_later hb x.b0, cell_later hb x.b1, cell_later hb x.c0, cell_later hb x.c1, cell_later hb x.j0, cell_later hb x.j1, cell_later hb x.m0, cell_later hb x.m1, below_step x.bel hb⟩
def LatRel (w : World) (l s m t n u : Int) (s7 s8 : Value) (wx : World) : Prop :=
  ∃ g h : Nat, s7 = .pointer (some ⟨g, 0, none⟩) ∧ s8 = .pointer (some ⟨h, 0, none⟩) ∧ LatW w l s m t n u g h wx

set_option maxHeartbeats 4000000 in
set_option maxRecDepth 100000 in
theorem labelLattice_walk0 (l s m t n u : Int) (w : World) (hs : SetN s) (ht : SetN t) (hu : SetN u) :
    Calls Try.prog 5 #[.agg #[.int .i64 l, .int .u16 s], .agg #[.int .i64 m, .int .u16 t], .agg #[.int .i64 n, .int .u16 u]] w fun e w' => e = .returned (.bool true) ∧ Below w.heap.size w w' := by
  have HS := Lib.hid hs
  have HT := Lib.hid ht
  have HU := Lib.hid hu
  clear hs ht hu
  go_enter Try.func5, Try.ntmps5
  go_upto_region 1 with fail
  go_cut [7, 8] (fun s7 s8 wx => LatRel w l s m t n u s7 s8 wx)
  case first =>
    go_region_held3 (fun w' => w'.cell? ⟨w.heap.size, 0, none⟩ = some (.int .i64 l) ∧ w'.cell? ⟨w.heap.size, 1, none⟩ = some (.int .u16 s) ∧ w'.cell? ⟨w.heap.size + 1, 0, none⟩ = some (.int .i64 m) ∧ w'.cell? ⟨w.heap.size + 1, 1, none⟩ = some (.int .u16 t))
      (simp [go_sem])
      (first
        | (go_at_call 12; refine (join_exact _ _ _ _ _).mono ?_; rintro e wn ⟨rfl, rfl⟩)
        | (go_at_call 14; refine (meet_exact _ _ _ _ _).mono ?_; rintro e wn ⟨rfl, rfl⟩))
    all_goals
      go_wp2_with fail
      go_meet
      refine ⟨_, _, rfl, rfl, ⟨?_, ?_, ?_, ?_, ?_, ?_, ?_, ?_, ?_, ?_, ?_⟩⟩
    all_goals (first | (simp [go_sem]; done) | (repeat (first | exact Below.refl _ _ | apply Below.drew | refine below_more ?_ _)))
  case rest =>
    obtain ⟨g, h, rfl, rfl, X⟩ := hcut
    go_upto_region 2 with fail
    go_cut [7, 8, 55] (fun s7 s8 s55 wx => s7 = .pointer (some ⟨g, 0, none⟩) ∧ s8 = .pointer (some ⟨h, 0, none⟩) ∧ s55 = .bool false ∧ LatW w l s m t n u g h wx)
    case first =>
      have r1 := leq_refl l HS.out
      obtain ⟨x1, x2, x3, x4, x5, x6, x7, x8, x9, x10, xb⟩ := X
      cases hA : leqB l s m t
      · go_wp2_with (first | (go_at_call 10; refine (awake_is _).mono ?_; rintro e wn ⟨rfl, hb⟩; replace x1 := cell_later hb x1; replace x2 := cell_later hb x2; replace x3 := cell_later hb x3; replace x4 := cell_later hb x4; replace x5 := cell_later hb x5; replace x6 := cell_later hb x6; replace x7 := cell_later hb x7; replace x8 := cell_later hb x8; replace x9 := cell_later hb x9; replace x10 := cell_later hb x10; replace xb := below_step xb hb; clear hb) | (go_at_call 16; refine (leq_is _ _ _ _ _ rfl _).mono ?_; rintro e wn ⟨rfl, hb⟩; replace x1 := cell_later hb x1; replace x2 := cell_later hb x2; replace x3 := cell_later hb x3; replace x4 := cell_later hb x4; replace x5 := cell_later hb x5; replace x6 := cell_later hb x6; replace x7 := cell_later hb x7; replace x8 := cell_later hb x8; replace x9 := cell_later hb x9; replace x10 := cell_later hb x10; replace xb := below_step xb hb; clear hb))
        go_meet
        exact ⟨rfl, rfl, rfl, ⟨x1, x2, x3, x4, x5, x6, x7, x8, x9, x10, xb⟩⟩
      · cases hC : leqB m t n u
        · cases hB : leqB m t l s
          · go_wp2_with (first | (go_at_call 10; refine (awake_is _).mono ?_; rintro e wn ⟨rfl, hb⟩; replace x1 := cell_later hb x1; replace x2 := cell_later hb x2; replace x3 := cell_later hb x3; replace x4 := cell_later hb x4; replace x5 := cell_later hb x5; replace x6 := cell_later hb x6; replace x7 := cell_later hb x7; replace x8 := cell_later hb x8; replace x9 := cell_later hb x9; replace x10 := cell_later hb x10; replace xb := below_step xb hb; clear hb) | (go_at_call 16; refine (leq_is _ _ _ _ _ rfl _).mono ?_; rintro e wn ⟨rfl, hb⟩; replace x1 := cell_later hb x1; replace x2 := cell_later hb x2; replace x3 := cell_later hb x3; replace x4 := cell_later hb x4; replace x5 := cell_later hb x5; replace x6 := cell_later hb x6; replace x7 := cell_later hb x7; replace x8 := cell_later hb x8; replace x9 := cell_later hb x9; replace x10 := cell_later hb x10; replace xb := below_step xb hb; clear hb))
            go_meet
            exact ⟨rfl, rfl, rfl, ⟨x1, x2, x3, x4, x5, x6, x7, x8, x9, x10, xb⟩⟩
          · have hE : sameB l s m t = true := sameB_iff.2 (leq_anti HS.out HT.out hA hB)
            go_wp2_with (first | (go_at_call 10; refine (awake_is _).mono ?_; rintro e wn ⟨rfl, hb⟩; replace x1 := cell_later hb x1; replace x2 := cell_later hb x2; replace x3 := cell_later hb x3; replace x4 := cell_later hb x4; replace x5 := cell_later hb x5; replace x6 := cell_later hb x6; replace x7 := cell_later hb x7; replace x8 := cell_later hb x8; replace x9 := cell_later hb x9; replace x10 := cell_later hb x10; replace xb := below_step xb hb; clear hb) | (go_at_call 16; refine (leq_is _ _ _ _ _ rfl _).mono ?_; rintro e wn ⟨rfl, hb⟩; replace x1 := cell_later hb x1; replace x2 := cell_later hb x2; replace x3 := cell_later hb x3; replace x4 := cell_later hb x4; replace x5 := cell_later hb x5; replace x6 := cell_later hb x6; replace x7 := cell_later hb x7; replace x8 := cell_later hb x8; replace x9 := cell_later hb x9; replace x10 := cell_later hb x10; replace xb := below_step xb hb; clear hb))
            go_meet
            exact ⟨rfl, rfl, rfl, ⟨x1, x2, x3, x4, x5, x6, x7, x8, x9, x10, xb⟩⟩
        · have hD := leq_trans HS.out HT.out HU.out hA hC
          cases hB : leqB m t l s
          · go_wp2_with (first | (go_at_call 10; refine (awake_is _).mono ?_; rintro e wn ⟨rfl, hb⟩; replace x1 := cell_later hb x1; replace x2 := cell_later hb x2; replace x3 := cell_later hb x3; replace x4 := cell_later hb x4; replace x5 := cell_later hb x5; replace x6 := cell_later hb x6; replace x7 := cell_later hb x7; replace x8 := cell_later hb x8; replace x9 := cell_later hb x9; replace x10 := cell_later hb x10; replace xb := below_step xb hb; clear hb) | (go_at_call 16; refine (leq_is _ _ _ _ _ rfl _).mono ?_; rintro e wn ⟨rfl, hb⟩; replace x1 := cell_later hb x1; replace x2 := cell_later hb x2; replace x3 := cell_later hb x3; replace x4 := cell_later hb x4; replace x5 := cell_later hb x5; replace x6 := cell_later hb x6; replace x7 := cell_later hb x7; replace x8 := cell_later hb x8; replace x9 := cell_later hb x9; replace x10 := cell_later hb x10; replace xb := below_step xb hb; clear hb))
            go_meet
            exact ⟨rfl, rfl, rfl, ⟨x1, x2, x3, x4, x5, x6, x7, x8, x9, x10, xb⟩⟩
          · have hE : sameB l s m t = true := sameB_iff.2 (leq_anti HS.out HT.out hA hB)
            go_wp2_with (first | (go_at_call 10; refine (awake_is _).mono ?_; rintro e wn ⟨rfl, hb⟩; replace x1 := cell_later hb x1; replace x2 := cell_later hb x2; replace x3 := cell_later hb x3; replace x4 := cell_later hb x4; replace x5 := cell_later hb x5; replace x6 := cell_later hb x6; replace x7 := cell_later hb x7; replace x8 := cell_later hb x8; replace x9 := cell_later hb x9; replace x10 := cell_later hb x10; replace xb := below_step xb hb; clear hb) | (go_at_call 16; refine (leq_is _ _ _ _ _ rfl _).mono ?_; rintro e wn ⟨rfl, hb⟩; replace x1 := cell_later hb x1; replace x2 := cell_later hb x2; replace x3 := cell_later hb x3; replace x4 := cell_later hb x4; replace x5 := cell_later hb x5; replace x6 := cell_later hb x6; replace x7 := cell_later hb x7; replace x8 := cell_later hb x8; replace x9 := cell_later hb x9; replace x10 := cell_later hb x10; replace xb := below_step xb hb; clear hb))
            go_meet
            exact ⟨rfl, rfl, rfl, ⟨x1, x2, x3, x4, x5, x6, x7, x8, x9, x10, xb⟩⟩
    case rest =>
      obtain ⟨rfl, rfl, rfl, X⟩ := hcut
      go_upto_region 4 with fail
      go_cut [7, 8, 77] (fun s7 s8 s77 wx => s7 = .pointer (some ⟨g, 0, none⟩) ∧ s8 = .pointer (some ⟨h, 0, none⟩) ∧ s77 = .bool false ∧ LatW w l s m t n u g h wx)
      case first =>
        have f1 := leq_join_left (l := l) (m := m) HS.out HT.out
        have f2 := leq_join_right (l := l) (m := m) HS.out HT.out
        have f3 := meet_leq_left (l := l) (m := m) HS.out HT.out
        have f4 := meet_leq_right (l := l) (m := m) HS.out HT.out
        obtain ⟨x1, x2, x3, x4, x5, x6, x7, x8, x9, x10, xb⟩ := X
        go_wp2_with (first | (go_at_call 10; refine (awake_is _).mono ?_; rintro e wn ⟨rfl, hb⟩; replace x1 := cell_later hb x1; replace x2 := cell_later hb x2; replace x3 := cell_later hb x3; replace x4 := cell_later hb x4; replace x5 := cell_later hb x5; replace x6 := cell_later hb x6; replace x7 := cell_later hb x7; replace x8 := cell_later hb x8; replace x9 := cell_later hb x9; replace x10 := cell_later hb x10; replace xb := below_step xb hb; clear hb) | (go_at_call 16; refine (leq_is _ _ _ _ _ rfl _).mono ?_; rintro e wn ⟨rfl, hb⟩; replace x1 := cell_later hb x1; replace x2 := cell_later hb x2; replace x3 := cell_later hb x3; replace x4 := cell_later hb x4; replace x5 := cell_later hb x5; replace x6 := cell_later hb x6; replace x7 := cell_later hb x7; replace x8 := cell_later hb x8; replace x9 := cell_later hb x9; replace x10 := cell_later hb x10; replace xb := below_step xb hb; clear hb))
        go_meet
        exact ⟨rfl, rfl, rfl, ⟨x1, x2, x3, x4, x5, x6, x7, x8, x9, x10, xb⟩⟩
      case rest =>
        obtain ⟨rfl, rfl, rfl, X⟩ := hcut
        go_upto_region 6 with fail
        go_cut [7, 8, 9] (fun s7 s8 s9 wx => s7 = .pointer (some ⟨g, 0, none⟩) ∧ s8 = .pointer (some ⟨h, 0, none⟩) ∧ s9 = .bool (leqB (mxI l m) (orS s t) n u) ∧ LatW w l s m t n u g h wx)
        case first =>
          have f1 := join_leq (l := l) (m := m) (n := n) HS.out HT.out HU.out
          have F1 := Lib.hid f1
          clear f1
          obtain ⟨x1, x2, x3, x4, x5, x6, x7, x8, x9, x10, xb⟩ := X
          cases hD : leqB l s n u
          · go_wp2_with (first | (go_at_call 10; refine (awake_is _).mono ?_; rintro e wn ⟨rfl, hb⟩; replace x1 := cell_later hb x1; replace x2 := cell_later hb x2; replace x3 := cell_later hb x3; replace x4 := cell_later hb x4; replace x5 := cell_later hb x5; replace x6 := cell_later hb x6; replace x7 := cell_later hb x7; replace x8 := cell_later hb x8; replace x9 := cell_later hb x9; replace x10 := cell_later hb x10; replace xb := below_step xb hb; clear hb) | (go_at_call 16; refine (leq_is _ _ _ _ _ rfl _).mono ?_; rintro e wn ⟨rfl, hb⟩; replace x1 := cell_later hb x1; replace x2 := cell_later hb x2; replace x3 := cell_later hb x3; replace x4 := cell_later hb x4; replace x5 := cell_later hb x5; replace x6 := cell_later hb x6; replace x7 := cell_later hb x7; replace x8 := cell_later hb x8; replace x9 := cell_later hb x9; replace x10 := cell_later hb x10; replace xb := below_step xb hb; clear hb))
            go_meet
            exact ⟨rfl, rfl, by rw [F1.out, hD]; rfl, ⟨x1, x2, x3, x4, x5, x6, x7, x8, x9, x10, xb⟩⟩
          · go_wp2_with (first | (go_at_call 10; refine (awake_is _).mono ?_; rintro e wn ⟨rfl, hb⟩; replace x1 := cell_later hb x1; replace x2 := cell_later hb x2; replace x3 := cell_later hb x3; replace x4 := cell_later hb x4; replace x5 := cell_later hb x5; replace x6 := cell_later hb x6; replace x7 := cell_later hb x7; replace x8 := cell_later hb x8; replace x9 := cell_later hb x9; replace x10 := cell_later hb x10; replace xb := below_step xb hb; clear hb) | (go_at_call 16; refine (leq_is _ _ _ _ _ rfl _).mono ?_; rintro e wn ⟨rfl, hb⟩; replace x1 := cell_later hb x1; replace x2 := cell_later hb x2; replace x3 := cell_later hb x3; replace x4 := cell_later hb x4; replace x5 := cell_later hb x5; replace x6 := cell_later hb x6; replace x7 := cell_later hb x7; replace x8 := cell_later hb x8; replace x9 := cell_later hb x9; replace x10 := cell_later hb x10; replace xb := below_step xb hb; clear hb))
            go_meet
            exact ⟨rfl, rfl, by rw [F1.out, hD]; rfl, ⟨x1, x2, x3, x4, x5, x6, x7, x8, x9, x10, xb⟩⟩
        case rest =>
          obtain ⟨rfl, rfl, rfl, X⟩ := hcut
          go_upto_region 7 with fail
          go_cut [7, 8, 9, 10] (fun s7 s8 s9 s10 wx => s7 = .pointer (some ⟨g, 0, none⟩) ∧ s8 = .pointer (some ⟨h, 0, none⟩) ∧ s9 = .bool (leqB (mxI l m) (orS s t) n u) ∧ s10 = .bool (leqB n u (mnI l m) (andS s t)) ∧ LatW w l s m t n u g h wx)
          case first =>
            have f1 := leq_meet (l := l) (m := m) (n := n) HS.out HT.out HU.out
            have F1 := Lib.hid f1
            clear f1
            obtain ⟨x1, x2, x3, x4, x5, x6, x7, x8, x9, x10, xb⟩ := X
            cases hD : leqB n u l s
            · go_wp2_with (first | (go_at_call 10; refine (awake_is _).mono ?_; rintro e wn ⟨rfl, hb⟩; replace x1 := cell_later hb x1; replace x2 := cell_later hb x2; replace x3 := cell_later hb x3; replace x4 := cell_later hb x4; replace x5 := cell_later hb x5; replace x6 := cell_later hb x6; replace x7 := cell_later hb x7; replace x8 := cell_later hb x8; replace x9 := cell_later hb x9; replace x10 := cell_later hb x10; replace xb := below_step xb hb; clear hb) | (go_at_call 16; refine (leq_is _ _ _ _ _ rfl _).mono ?_; rintro e wn ⟨rfl, hb⟩; replace x1 := cell_later hb x1; replace x2 := cell_later hb x2; replace x3 := cell_later hb x3; replace x4 := cell_later hb x4; replace x5 := cell_later hb x5; replace x6 := cell_later hb x6; replace x7 := cell_later hb x7; replace x8 := cell_later hb x8; replace x9 := cell_later hb x9; replace x10 := cell_later hb x10; replace xb := below_step xb hb; clear hb))
              go_meet
              exact ⟨rfl, rfl, rfl, by rw [F1.out, hD]; rfl, ⟨x1, x2, x3, x4, x5, x6, x7, x8, x9, x10, xb⟩⟩
            · go_wp2_with (first | (go_at_call 10; refine (awake_is _).mono ?_; rintro e wn ⟨rfl, hb⟩; replace x1 := cell_later hb x1; replace x2 := cell_later hb x2; replace x3 := cell_later hb x3; replace x4 := cell_later hb x4; replace x5 := cell_later hb x5; replace x6 := cell_later hb x6; replace x7 := cell_later hb x7; replace x8 := cell_later hb x8; replace x9 := cell_later hb x9; replace x10 := cell_later hb x10; replace xb := below_step xb hb; clear hb) | (go_at_call 16; refine (leq_is _ _ _ _ _ rfl _).mono ?_; rintro e wn ⟨rfl, hb⟩; replace x1 := cell_later hb x1; replace x2 := cell_later hb x2; replace x3 := cell_later hb x3; replace x4 := cell_later hb x4; replace x5 := cell_later hb x5; replace x6 := cell_later hb x6; replace x7 := cell_later hb x7; replace x8 := cell_later hb x8; replace x9 := cell_later hb x9; replace x10 := cell_later hb x10; replace xb := below_step xb hb; clear hb))
              go_meet
              exact ⟨rfl, rfl, rfl, by rw [F1.out, hD]; rfl, ⟨x1, x2, x3, x4, x5, x6, x7, x8, x9, x10, xb⟩⟩
          case rest =>
            obtain ⟨rfl, rfl, rfl, rfl, X⟩ := hcut
            obtain ⟨x1, x2, x3, x4, x5, x6, x7, x8, x9, x10, xb⟩ := X
            have f1 := join_meet (l := l) (m := m) HS.out HT.out
            have f2 := meet_join (l := l) (m := m) HS.out HT.out
            have f3 := f1.1
            have f4 := f1.2
            have f5 := f2.1
            have f6 := f2.2
            have f7 : sameB l s l s = true := by simp [sameB]
            have f8 : (leqB (mxI l m) (orS s t) n u == leqB (mxI l m) (orS s t) n u) = true := by simp
            have f9 : (leqB n u (mnI l m) (andS s t) == leqB n u (mnI l m) (andS s t)) = true := by simp
            clear f1 f2
            go_wp2_with fail
            go_region_held3 (fun w' => w'.cell? ⟨w.heap.size, 0, none⟩ = some (.int .i64 l) ∧ w'.cell? ⟨w.heap.size, 1, none⟩ = some (.int .u16 s) ∧ w'.cell? ⟨w.heap.size + 1, 0, none⟩ = some (.int .i64 m) ∧ w'.cell? ⟨w.heap.size + 1, 1, none⟩ = some (.int .u16 t) ∧ w'.cell? ⟨w.heap.size + 1 + 1, 0, none⟩ = some (.int .i64 n) ∧ w'.cell? ⟨w.heap.size + 1 + 1, 1, none⟩ = some (.int .u16 u) ∧ w'.cell? ⟨g, 0, none⟩ = some (.int .i64 (mxI l m)) ∧ w'.cell? ⟨g, 1, none⟩ = some (.int .u16 (orS s t)) ∧ w'.cell? ⟨h, 0, none⟩ = some (.int .i64 (mnI l m)) ∧ w'.cell? ⟨h, 1, none⟩ = some (.int .u16 (andS s t)) ∧ Below w.heap.size w w')
              (first | exact ⟨x1, x2, x3, x4, x5, x6, x7, x8, x9, x10, xb.drew⟩ | (go_split_ands; exact ⟨cell_later hb (by with_reducible assumption), cell_later hb (by with_reducible assumption), cell_later hb (by with_reducible assumption), cell_later hb (by with_reducible assumption), cell_later hb (by with_reducible assumption), cell_later hb (by with_reducible assumption), cell_later hb (by with_reducible assumption), cell_later hb (by with_reducible assumption), cell_later hb (by with_reducible assumption), cell_later hb (by with_reducible assumption), below_step (by with_reducible assumption) hb⟩))
              (first
                | (go_at_call 12; refine (join_is _ _ _ _ _).mono ?_; rintro e wn ⟨rfl, hb⟩)
                | (go_at_call 14; refine (meet_is _ _ _ _ _).mono ?_; rintro e wn ⟨rfl, hb⟩)
                | (go_at_call 16; refine (leq_is _ _ _ _ _ rfl _).mono ?_; rintro e wn ⟨rfl, hb⟩))
            go_split_ands
            go_wp2_with fail
            go_ret
            exact ⟨rfl, by with_reducible assumption⟩

theorem labelLattice_walk (l s m t n u : Int) (_w0 : (Lit.int .i64 l).wf = true) (w1 : (Lit.int .u16 s).wf = true) (_w2 : (Lit.int .i64 m).wf = true) (w3 : (Lit.int .u16 t).wf = true) (_w4 : (Lit.int .i64 n).wf = true) (w5 : (Lit.int .u16 u).wf = true) (w : World) :
    Calls Try.prog 5 #[.agg #[.int .i64 l, .int .u16 s], .agg #[.int .i64 m, .int .u16 t], .agg #[.int .i64 n, .int .u16 u]] w fun e w' => e = .returned (.bool true) ∧ Below w.heap.size w w' := by
  have h1 := bounds_u16 w1
  have h3 := bounds_u16 w3
  have h5 := bounds_u16 w5
  exact labelLattice_walk0 l s m t n u w ⟨h1.1, by omega⟩ ⟨h3.1, by omega⟩ ⟨h5.1, by omega⟩

end Go.Proofs.Ytohonaifcpcnbaa
