/-
  GateVotes over the bundle. No conditions but how the list lies.
-/
import Derived.Test.YthmjeibanofliaaGtM
namespace Go.Proofs.Ythmjeibanofliaa
open Go.RowKit

/-- Votes that are cast stand at A. -/
def CsL (w : World) (A : Option Addr) (cs : List (Int × Bool)) : Prop := 0 < cs.length → ∃ ad, A = some ad ∧ ∀ i x, cs[i]? = some x → w.cell? (ad.add (i * 2)) = some (.int .i64 x.1) ∧ w.cell? ⟨(ad.add (i * 2)).block, (ad.add (i * 2)).off + 1, none⟩ = some (.bool x.2)
theorem CsL.at_ {w w' : World} {A : Option Addr} {cs : List (Int × Bool)} (h : CsL w A cs) (hb : Below w.heap.size w w') {i : Nat} {x : Int × Bool} (hi : cs[i]? = some x) : ∃ ad, A = some ad ∧ w'.cell? (ad.add (i * 2)) = some (.int .i64 x.1) ∧ w'.cell? ⟨(ad.add (i * 2)).block, (ad.add (i * 2)).off + 1, none⟩ = some (.bool x.2) := by
  obtain ⟨ad, e, hc⟩ := h (by have := (List.getElem?_eq_some_iff.1 hi).1; omega)
  exact ⟨ad, e, cell_later hb (hc i x hi).1, cell_later hb (hc i x hi).2⟩
/-- What stands behind the two votes: the old votes, the new ones, the document's list, the cast, the map. -/
structure GvS (w : World) (gv gx gc gm : Nat) (P : Option Addr) (p : Nat) (yes : List Int) (no : Bool) (X : Option Addr) (x : Nat) (ys : List Int) (n2 : Bool) (B : Option Addr) (b : Nat) (who : Int) (is : Bool) (mp : List Int) (q : Nat) (W : World) : Prop where
  v : VtAt W gv P p yes no
  x : VtAt W gx X x ys n2
  d : IntsC W B b ys
  c : W.heap[gc]? = some (.cells #[.int .i64 who, .bool is] 29 (0, 0))
  m : MapG W gm mp q
  lo : Below w.heap.size w W
  hi : w.heap.size ≤ gm ∧ w.heap.size ≤ gv
section
variable {w W V : World} {gv gx gc gm : Nat} {P : Option Addr} {p : Nat} {yes : List Int} {no : Bool} {X : Option Addr} {x : Nat} {ys : List Int} {n2 : Bool} {B : Option Addr} {b : Nat} {who : Int} {is : Bool} {mp mp2 : List Int} {q q2 : Nat}
theorem GvS.later (h : GvS w gv gx gc gm P p yes no X x ys n2 B b who is mp q W) (hb : Below W.heap.size W V) : GvS w gv gx gc gm P p yes no X x ys n2 B b who is mp q V :=
  ⟨h.v.later hb, h.x.later hb, h.d.later hb, later_at hb h.c, h.m.later hb, below_step h.lo hb, h.hi⟩
theorem GvS.mapped (h : GvS w gv gx gc gm P p yes no X x ys n2 B b who is mp q W) (hg : W.grownBy V (some gm)) (hm : MapG V gm mp2 q2) : GvS w gv gx gc gm P p yes no X x ys n2 B b who is mp2 q2 V := by
  obtain ⟨es, clock, he⟩ := h.m.is
  have hk : ∀ a v, W.cell? a = some v → V.cell? a = some v := fun a v ha => by
    refine hg.cell ha fun e => ?_
    injection e with e
    rw [← e] at he
    simp [World.cell?, he] at ha
  have hh : ∀ {i : Nat} {cs : Array Value} {t : TypeId} {m : Nat × Nat}, W.heap[i]? = some (.cells cs t m) → V.heap[i]? = some (.cells cs t m) := fun {i cs t m} hi => by
    have hne : i ≠ gm := fun e => by rw [e, he] at hi; cases hi
    rw [hg.block i (Array.getElem?_eq_some_iff.1 hi).1 (fun e => hne (by cases e; rfl))]
    exact hi
  exact ⟨⟨hh h.v.1, h.v.2.keep hk⟩, ⟨hh h.x.1, h.x.2.keep hk⟩, h.d.keep hk, hh h.c, hm, h.lo.grown hg (Nat.le_trans h.lo.size (Nat.le_refl _)) (fun i e => by cases e; exact h.hi.1), h.hi⟩
end
theorem own_none12 (w : World) (t : TypeId) : (w.alloc (.cells #[] t)).ownsRow w.heap.size t 1 (.slice (some ⟨w.heap.size, 0, none⟩) 0 0) 0 [] := by
  refine ⟨by simp, .inr ⟨w.heap.size, 0, #[], rfl, Nat.le_refl _, made_at w _, Nat.le_refl _, by unfold maxLen; omega, by simp, by simp⟩⟩
section
variable {w : World} {A : Option Addr} {c : Nat} {cs : List (Int × Bool)}
set_option maxHeartbeats 16000000 in
set_option maxRecDepth 100000 in
theorem gatevotes_true (C : GateOk) (hA : CsL w A cs) (hlc : cs.length ≤ c) (need : Int) (hin : ∀ x ∈ cs, -9223372036854775808 ≤ x.1 ∧ x.1 ≤ 9223372036854775807) : Calls Try.prog 3 #[.slice A cs.length c, .int .i64 need] w fun e w' => e = .returned (.bool true) ∧ Below w.heap.size w w' := by
  have HC := Lib.hid C
  have HA := Lib.hid hA
  have HLC := Lib.hid hlc
  have HIN := Lib.hid hin
  obtain ⟨i0, hi, hz0, hz1, hz2⟩ := info_all info_int
  clear C hA hlc hin
  go_enter Try.func3, Try.ntmps3
  go_wp2_with fail
  refine (gtawake_true HC.out _).mono ?_
  rintro e w1 ⟨rfl, hb1⟩
  have HB1 := Lib.hid hb1
  clear hb1
  by_cases h50 : (100 : Int) < (cs.length : Int)
  · go_wp2_with fail
    refine (gtawake_true HC.out _).mono ?_
    rintro e w2 ⟨rfl, hb2⟩
    have HB2 := Lib.hid (below_step HB1.out hb2)
    clear hb2
    go_wp2_with fail
    go_ret
    exact ⟨rfl, HB2.out⟩
  have hl50 : cs.length ≤ 100 := by omega
  have hal1 := (Below.refl w1.heap.size w1).alloc (Nat.le_refl _) (.cells #[.slice none (0 : Nat) 0, .bool false] 26)
  have hal2 := (Below.refl _ (w1.alloc (.cells #[.slice none (0 : Nat) 0, .bool false] 26))).alloc (Nat.le_refl _) (.map #[] 0)
  have hva : VtAt (w1.alloc (.cells #[.slice none (0 : Nat) 0, .bool false] 26)) w1.heap.size none 0 [] false := VtAt.made (IntsC.none_ w1) false
  have hmp := MapG.made (w1.alloc (.cells #[.slice none (0 : Nat) 0, .bool false] 26))
  rw [World.size_alloc] at hmp
  have HVA := Lib.hid (hva.later hal2)
  have HMP := Lib.hid hmp
  have HB2 := Lib.hid (below_step (below_step HB1.out hal1) hal2)
  have HGL := Lib.hid (show w.heap.size ≤ w1.heap.size from HB1.out.size)
  clear hal1 hal2 hva hmp HB1
  have hmm := @run_makeMap Try.prog
  go_upto_region 7 with fail
  clear hmm
  generalize hW2 : ((w1.alloc (.cells #[.slice none (0 : Nat) 0, .bool false] 26)).alloc (.map #[] 0)) = W2 at *
  clear hW2
  obtain ⟨gm, hgm⟩ : ∃ gm, gm = w1.heap.size + 1 := ⟨_, rfl⟩
  obtain ⟨gv, hgv⟩ : ∃ gv, gv = w1.heap.size := ⟨_, rfl⟩
  have HNE := Lib.hid (show w.heap.size ≤ gm ∧ w.heap.size ≤ gv ∧ gv ≠ gm from by have := HGL.out; omega)
  rw [← hgm] at HMP
  rw [← hgv] at HVA
  rw [← hgm, ← hgv]
  clear hgm hgv HGL
  go_wp2_with fail
  go_loopw [6, 7, 28] (fun s6 s7 i wr => ∃ (k : Nat) (P B : Option Addr) (p b : Nat) (yes : List Int) (no : Bool), s6 = .slice B yes.length b ∧ s7 = .bool no ∧ i = .int .i64 k ∧ k ≤ cs.length ∧ Hid (VtAt wr gv P p yes no) ∧ Hid (IntsC wr B b yes) ∧ Hid (RisL yes) ∧ Hid (MapG wr gm yes k) ∧ Hid (Below w.heap.size w wr)) (fun _ _ i _ => cs.length - (intOf i).toNat)
  case atStart => exact ⟨0, none, none, 0, 0, [], false, rfl, rfl, rfl, Nat.zero_le _, HVA, Lib.hid (IntsC.none_ _), Lib.hid RisL.nil, HMP, HB2⟩
  case round =>
    obtain ⟨k, P, B, p, b, yes, no, rfl, rfl, rfl, hk, HV, HD, HR, HM, HB⟩ := hrel
    by_cases hlt : k < cs.length
    · obtain ⟨⟨who, is⟩, hx⟩ : ∃ x, cs[k]? = some x := ⟨_, List.getElem?_eq_getElem hlt⟩
      obtain ⟨ad, rfl, c0, c1⟩ := HA.out.at_ HB.out hx
      have HWB := Lib.hid (show -9223372036854775808 ≤ who ∧ who ≤ 9223372036854775807 from HIN.out _ (List.mem_of_getElem? hx))
      have hkl : (k : Int) < (cs.length : Int) := by omega
      have hkc : (k : Int) < (c : Int) := by have := HLC.out; omega
      have hal := (Below.refl wr.heap.size wr).alloc (Nat.le_refl _) (.cells #[.int .i64 who, .bool is] 29)
      have HCB := Lib.hid (made_at wr (.cells #[.int .i64 who, .bool is] 29))
      have HV1 := Lib.hid (HV.out.later hal)
      have HD1 := Lib.hid (HD.out.later hal)
      have HM1 := Lib.hid (HM.out.later hal)
      have HB3 := Lib.hid (below_step HB.out hal)
      have h12 := HR.out.len
      simp only [] at c0 c1
      clear hx hal HV HD HM HB
      go_upto_region 10 with fail
      generalize hW3 : (wr.alloc (.cells #[.int .i64 who, .bool is] 29)) = W3 at *
      clear hW3 c0 c1
      generalize wr.heap.size = gc at *
      obtain ⟨ys, hys⟩ : ∃ ys, ys = yesV yes who is := ⟨_, rfl⟩
      obtain ⟨n2, hn2⟩ : ∃ n2, n2 = noV no is := ⟨_, rfl⟩
      obtain ⟨mb, hmb⟩ : ∃ mb, mb = mayV ys n2 need := ⟨_, rfl⟩
      have HVT := Lib.hid (fun (W : World) (h : IntsC W P p yes) => show Calls Try.prog 6 #[.agg #[.slice P yes.length p, .bool no], .int .i64 who, .bool is, .int .i64 need] W (VtP W ys n2 mb) from by rw [hmb, hys, hn2]; exact HC.out.vote no is who need h HR.out)
      have HRF := Lib.hid (fun (W : World) (h : IntsC W B b yes) => show Calls Try.prog 7 #[.slice B yes.length b, .bool no, .int .i64 who, .bool is, .int .i64 need] W (VtOut W ys n2 mb) from by rw [hmb, hys, hn2]; exact refvote12_is h (by omega) no is who need)
      have HRY := Lib.hid (show RisL ys from by rw [hys]; exact HR.out.vote who is)
      have HYS := Lib.hid hys
      have HMB := Lib.hid hmb
      clear hys hn2 hmb
      have y12 := HRY.out.len
      have y0 := HV1.out.cells.1
      have y1 := HV1.out.cells.2
      have z0 := cellH HCB.out 0
      have z1 := cellH HCB.out 1
      simp at z0 z1
      go_wp2_with fail
      refine (HVT.out _ HV1.out.2).mono ?_
      rintro e w4 ⟨X, x, rfl, hix, hb4⟩
      have hal := hb4.alloc hb4.size (.cells #[.slice X ys.length x, .bool n2] 26)
      have HX4 := Lib.hid (VtAt.made hix n2)
      have HV4 := Lib.hid (HV1.out.later hal)
      have HD4 := Lib.hid (HD1.out.later hal)
      have HM4 := Lib.hid (HM1.out.later hal)
      have HC4 := Lib.hid (later_at hal HCB.out)
      have HB4 := Lib.hid (below_step HB3.out hal)
      clear hix hb4 hal y0 y1 z0 z1 HVT HV1 HD1 HM1 HCB HB3
      go_upto_region 11 with fail
      generalize (w4.alloc (.cells #[.slice X ys.length x, .bool n2] 26)) = W4 at *
      generalize w4.heap.size = gx at *
      have y0 := cell_alloc (o := .cells #[] 3) HV4.out.cells.1
      have hi4 := HV4.out.2.later ((Below.refl W4.heap.size W4).alloc (Nat.le_refl _) (.cells #[] 3))
      have HI4 := Lib.hid hi4
      have hsz4 : (W4.alloc (.cells #[] 3)).heap.size = W4.heap.size + 1 := by rw [World.size_alloc]
      clear hi4
      go_upto_region 12 with (at_builtin; refine wpList_append_opt _ rfl (.tmp 42) (.tmp 44) 24 rfl W4.heap.size 3 i0 _ 1 8 Try.underlying24 hi hz0 hz1 hz2 rfl (by omega) (.slice (some ⟨W4.heap.size, 0, none⟩) 0 0) 0 [] rfl (own_none12 _ _) P yes.length p (yes.map (Value.int .i64)) rfl HI4.out.zero (by simp) HI4.out.opt (by simp [Value.oneCell']) (by unfold maxLen; omega) (by omega) (by omega) ?_; intro v5 w5 hown5 hg5; obtain ⟨Q, q, rfl, hQ, hQb⟩ := intsC_of_own (zs := yes) (by simpa using hown5); have HQ5 := Lib.hid hQ; have hb5 := ((Below.refl W4.heap.size W4).alloc (Nat.le_refl _) (.cells #[] 3)).grown hg5 (by omega) (fun q hq => by cases hq; exact Nat.le_refl _); have HX5 := Lib.hid (HX4.out.later hb5); have HV5 := Lib.hid (HV4.out.later hb5); have HD5 := Lib.hid (HD4.out.later hb5); have HM5 := Lib.hid (HM4.out.later hb5); have HC5 := Lib.hid (later_at hb5 HC4.out); have HB5 := Lib.hid (below_step HB4.out hb5); clear hown5 hg5 hQ hQb hb5 y0 hsz4)
      clear HX4 HV4 HD4 HM4 HC4 HB4 HI4
      have z0 := cellH HC5.out 0
      have z1 := cellH HC5.out 1
      simp at z0 z1
      go_wp2_with fail
      refine (HRF.out _ HD5.out).mono ?_
      rintro e w6 ⟨B6, b6, rfl, hi6, hb6⟩
      have HQ6 := Lib.hid (HQ5.out.later hb6)
      have HS6 := Lib.hid (show GvS w gv gx gc gm P p yes no X x ys n2 B6 b6 who is yes k w6 from ⟨HV5.out.later hb6, HX5.out.later hb6, hi6, later_at hb6 HC5.out, HM5.out.later hb6, below_step HB5.out hb6, HNE.out.1, HNE.out.2.1⟩)
      clear hi6 hb6 z0 z1 HRF HX5 HV5 HD5 HM5 HC5 HB5 HQ5
      go_upto_region 13 with fail
      have y0 := HS6.out.x.cells.1
      go_wp2_with fail
      refine (gsame_is HS6.out.x.2 HS6.out.d (by omega)).mono ?_
      rintro e w7 ⟨rfl, hb7⟩
      have HQ7 := Lib.hid (HQ6.out.later hb7)
      have HS7 := Lib.hid (HS6.out.later hb7)
      clear hb7 y0 HS6 HQ6
      have y0 := HS7.out.v.cells.1
      have y1 := HS7.out.x.cells.2
      have e1 : (n2 != n2) = false := bne_self_eq_false _
      have e2 : (mb != mb) = false := bne_self_eq_false _
      go_wp2_with fail
      refine (gsame_is HS7.out.v.2 HQ7.out (by omega)).mono ?_
      rintro e w8 ⟨rfl, hb8⟩
      have HS8 := Lib.hid (HS7.out.later hb8)
      clear hb8 y0 y1 HS7 HQ7
      have y0 := HS8.out.x.cells.1
      have y1 := HS8.out.x.cells.2
      have hrt := HC.out.right (w := w8) n2 HS8.out.x.2 (by omega)
      rw [rightV_iff.2 HRY.out] at hrt
      have HRT := Lib.hid hrt
      clear hrt
      go_wp2_with fail
      refine HRT.out.mono ?_
      rintro e w9 ⟨rfl, hb9⟩
      have HS9 := Lib.hid (HS8.out.later hb9)
      clear hb9 y0 y1 HS8 HRT e1 e2
      go_upto_region 15 with fail
      go_cut [97] (fun v wx => v = .bool (is && okWho who) ∧ w9 = wx)
      case first =>
        have z0 := cellH HS9.out.c 0
        have z1 := cellH HS9.out.c 1
        simp at z0 z1
        cases is with
        | false =>
          go_wp2_with fail
          go_meet
          exact ⟨rfl, rfl⟩
        | true =>
          by_cases hw0 : 0 ≤ who
          · by_cases hw1 : who < 12
            · have HOK := Lib.hid (show (true && okWho who) = true from by unfold okWho; simp [hw0, hw1])
              go_wp2_with fail
              go_meet
              exact ⟨by rw [HOK.out], rfl⟩
            · have HOK := Lib.hid (show (true && okWho who) = false from by unfold okWho; simp; omega)
              go_wp2_with fail
              go_meet
              exact ⟨by rw [HOK.out], rfl⟩
          · have HOK := Lib.hid (show (true && okWho who) = false from by unfold okWho; simp; omega)
            go_wp2_with fail
            go_meet
            exact ⟨by rw [HOK.out], rfl⟩
      case rest =>
      obtain ⟨rfl, rfl⟩ := hcut
      obtain ⟨cb, hcb⟩ : ∃ cb, cb = (is && okWho who) := ⟨_, rfl⟩
      rw [← hcb]
      have HCBB := Lib.hid hcb
      clear hcb
      cases cb
      case' false =>
        have HSA := Lib.hid (show GvS w gv gx gc gm P p yes no X x ys n2 B6 b6 who is ys (k + 1) w9 from by
          obtain rfl : ys = yes := by rw [HYS.out]; unfold yesV; rw [← HCBB.out]; rfl
          obtain ⟨h1, h2, h3, h4, h5, h6, h7⟩ := HS9.out
          exact ⟨h1, h2, h3, h4, h5.more, h6, h7⟩)
        go_upto_region 17 with fail
      case' true =>
        have HOK := Lib.hid (show is = true ∧ okWho who = true from by have := HCBB.out; simpa using this.symm)
        obtain ⟨D, hown, ht, hsz, hh⟩ := HS9.out.m
        have HO := Lib.hid hown
        have HDD := Lib.hid (And.intro ht (And.intro hsz hh))
        have HKY := Lib.hid (keyI12 HWB.out.1 HWB.out.2)
        have z0 := cellH HS9.out.c 0
        simp at z0
        clear hown ht hsz hh
        go_upto_region 17 with (at_mapUpdate; refine wpList_mapUpdate_own _ rfl _ _ _ 27 rfl 3 4 lawI12 Try.underlying27 (plainElem Try.prog 4) gm k D rfl HO.out (by unfold maxLen; omega) _ _ (.int .i64 who) rfl rfl HKY.out (.lit (.bool true)) [] (plainElem_bool Try.underlying4 true) ?_; intro w10 hown10 hg10; have HSA := Lib.hid (HS9.out.mapped hg10 (show MapG w10 gm ys (k + 1) from by rw [HYS.out, HOK.out.1]; exact MapG.put HDD.out.1 HDD.out.2.1 HDD.out.2.2 HOK.out.2 hown10)); clear hown10 hg10)
        clear z0 HKY HDD HO HOK
        simp only [Act.put]
      all_goals clear HS9 HCBB
      all_goals
        have HCH := Lib.hid (fun (W : World) (h : GvS w gv gx gc gm P p yes no X x ys n2 B6 b6 who is ys (k + 1) W) => HC.out.has (w := W) n2 who h.x.2 (by omega))
        obtain ⟨cw, hcw⟩ : ∃ cw, cw = ys.contains who := ⟨_, rfl⟩
        rw [← hcw] at HCH
        go_cut [134] (fun v wx => v = .bool false ∧ Hid (GvS w gv gx gc gm P p yes no X x ys n2 B6 b6 who is ys (k + 1) wx))
        case first =>
          obtain ⟨S, hS, hSk, hSe, c0, c1, q0, q1, hln, hlk⟩ : ∃ S : World → Prop, (∀ W, (GvS w gv gx gc gm P p yes no X x ys n2 B6 b6 who is ys (k + 1)) W → S W) ∧ (∀ v v', S v → Below v.heap.size v v' → S v') ∧ (∀ v, S v → (GvS w gv gx gc gm P p yes no X x ys n2 B6 b6 who is ys (k + 1)) v) ∧
              (∀ z : HeldW S, z.w.cell? ⟨gc, 0, none⟩ = some (.int .i64 who)) ∧ (∀ z : HeldW S, z.w.cell? ⟨gc, 1, none⟩ = some (.bool is)) ∧ (∀ z : HeldW S, z.w.cell? ⟨gx, 0, none⟩ = some (.slice X ys.length x)) ∧ (∀ z : HeldW S, z.w.cell? ⟨gx, 1, none⟩ = some (.bool n2)) ∧
              (∀ z : HeldW S, (Builtin.len_ #[27] 3 #[.map (some gm)]).run Try.prog z.w = .ok (.int .i64 (ys.length : Int)) z.w) ∧ (∀ z : HeldW S, (Instr.lookup 27 (.map (some gm)) (.int .i64 who) false).run Try.prog z.w = .ok (.bool cw) z.w) :=
            ⟨(GvS w gv gx gc gm P p yes no X x ys n2 B6 b6 who is ys (k + 1)), fun _ h => h, fun v v' h hb => h.later hb, fun _ h => h, fun z => (cellH z.ok.c 0).trans rfl, fun z => (cellH z.ok.c 1).trans rfl, fun z => z.ok.x.cells.1, fun z => z.ok.x.cells.2, fun z => z.ok.m.len_, fun z => by rw [hcw]; exact z.ok.m.look HWB.out.1 HWB.out.2⟩
          have HS0 := Lib.hid (hS _ (HSA.out.later (Below.refl _ _).drew))
          have HSK := Lib.hid hSk
          have HSE := Lib.hid hSe
          have n4 : ((ys.length : Int) != (ys.length : Int)) = false := bne_self_eq_false _
          have n5 : (cw != cw) = false := bne_self_eq_false _
          clear hcw hS hSk hSe HSA
          cases is with
          | false =>
            refine wp_region_kept S (by kernel_rfl) (by kernel_rfl) HS0.out ?_
            intro hne
            repeat (go_big_quiet_step (first | exact rfl | (go_at_call 10; rename_i xx; refine kept_of HSK.out (HCH.out _ (HSE.out _ xx.ok)))))
            refine wpQuiet_nil ?_
            rintro w20 ⟨⟨_, hq20⟩, rfl⟩
            clear c0 c1 q0 q1 hln hlk hne
            have HZ := Lib.hid (HSE.out _ hq20)
            clear hq20
            go_wp2_with fail
            go_meet
            exact ⟨rfl, HZ⟩
          | true =>
            cases n2 with
            | true =>
              obtain rfl : mb = false := by rw [HMB.out]; rfl
              refine wp_region_kept S (by kernel_rfl) (by kernel_rfl) HS0.out ?_
              intro hne
              repeat (go_big_quiet_step (first | exact rfl | (go_at_call 10; rename_i xx; refine kept_of HSK.out (HCH.out _ (HSE.out _ xx.ok)))))
              refine wpQuiet_nil ?_
              rintro w20 ⟨⟨_, hq20⟩, rfl⟩
              clear c0 c1 q0 q1 hln hlk hne
              have HZ := Lib.hid (HSE.out _ hq20)
              clear hq20
              go_wp2_with fail
              go_meet
              exact ⟨rfl, HZ⟩
            | false =>
              by_cases hge : need ≤ (ys.length : Int)
              · obtain rfl : mb = true := by rw [HMB.out]; unfold mayV; simp [hge]
                refine wp_region_kept S (by kernel_rfl) (by kernel_rfl) HS0.out ?_
                intro hne
                repeat (go_big_quiet_step (first | exact rfl | (go_at_call 10; rename_i xx; refine kept_of HSK.out (HCH.out _ (HSE.out _ xx.ok)))))
                refine wpQuiet_nil ?_
                rintro w20 ⟨⟨_, hq20⟩, rfl⟩
                clear c0 c1 q0 q1 hln hlk hne
                have HZ := Lib.hid (HSE.out _ hq20)
                clear hq20
                go_wp2_with fail
                go_meet
                exact ⟨rfl, HZ⟩
              · obtain rfl : mb = false := by rw [HMB.out]; unfold mayV; simp; omega
                refine wp_region_kept S (by kernel_rfl) (by kernel_rfl) HS0.out ?_
                intro hne
                repeat (go_big_quiet_step (first | exact rfl | (go_at_call 10; rename_i xx; refine kept_of HSK.out (HCH.out _ (HSE.out _ xx.ok)))))
                refine wpQuiet_nil ?_
                rintro w20 ⟨⟨_, hq20⟩, rfl⟩
                clear c0 c1 q0 q1 hln hlk hne
                have HZ := Lib.hid (HSE.out _ hq20)
                clear hq20
                go_wp2_with fail
                go_meet
                exact ⟨rfl, HZ⟩
        case rest =>
        obtain ⟨rfl, HSZ⟩ := hcut
        clear HSA HCH hcw
        have q0 := HSZ.out.x.cells.1
        have q1 := HSZ.out.x.cells.2
        have y0 := HSZ.out.v.cells.1
        have y1 := HSZ.out.v.cells.2
        have g0 := freeH HSZ.out.v.1 0
        have g1 := freeH HSZ.out.v.1 1
        have hv2 := HSZ.out.v.put HSZ.out.x.2 n2
        have r1' : (wc.setCell ⟨gv, 0, none⟩ (.slice X ys.length x)).heap[gv]? = some (.cells #[.slice X ys.length x, .bool no] 26 (0, 0)) := by rw [row_set HSZ.out.v.1]; simp
        have hd2 := (HSZ.out.d.set HSZ.out.v.1 0 (.slice X ys.length x)).set r1' 1 (.bool n2)
        have hm2 : MapG ((wc.setCell ⟨gv, 0, none⟩ (.slice X ys.length x)).setCell ⟨gv, 1, none⟩ (.bool n2)) gm ys (k + 1) := HSZ.out.m.block (by rw [row_keep12 (Ne.symm HNE.out.2.2), row_keep12 (Ne.symm HNE.out.2.2)])
        have hb2 := (HSZ.out.lo.setCell (p := ⟨gv, 0, none⟩) HNE.out.2.1 (.slice X ys.length x)).setCell (p := ⟨gv, 1, none⟩) HNE.out.2.1 (.bool n2)
        have HV9 := Lib.hid hv2
        have HD9 := Lib.hid hd2
        have HM9 := Lib.hid hm2
        have HB9 := Lib.hid hb2
        clear hv2 r1' hd2 hm2 hb2
        go_wp2_with fail
        go_roundw
        case rel => exact ⟨k + 1, X, B6, x, b6, ys, n2, rfl, rfl, by first | rfl | go_num, by omega, HV9, HD9, HRY, HM9, HB9⟩
        case measure => (simp [intOf]; try omega)
    · obtain rfl : k = cs.length := by omega
      have hlk : ¬ (cs.length : Int) < (cs.length : Int) := by omega
      go_wp2_with fail
      go_ret
      exact ⟨by first | rfl | simp, HB.out⟩
end
end Go.Proofs.Ythmjeibanofliaa
