/-
  The program's parts, and the function that it hands back: what is asked of one that is gone over. Conditions: lengths.
-/
import Derived.Test.YtcfnmjhelhdobaaGreatDoorLexT
import Derived.Test.YtcfnmjhelhdobaaGreatDoorLexC
import Derived.Test.YtcfnmjhelhdobaaGreatDoorRng2
import Derived.Test.YtcfnmjhelhdobaaGreatDoorShelf
import Derived.Shelf.RegionOpen
import Derived.Shelf.Abstract
import Derived.WalkKit
import Derived.OwnWalkIn
import Derived.TacticsInMore
import Derived.LoopNIn
import Derived.LoopIn
import Derived.IntWalk
namespace Go.Proofs.YtcfnmjhelhdobaaGreatDoor
open Go.RowKit Go.Shelf

attribute [local go_sem] Oper.semAt_some

/-- A word, as a value. -/
abbrev wdV (t : ByteArray) (p : Int) : Value := .agg #[.string t, .int .i64 p]
def encW (ps : List Wd) (k : Nat) : Array Value := #[wdV (ps.getD k ⟨.empty, 0⟩).t (ps.getD k ⟨.empty, 0⟩).p]
/-- How much of a variable's text is left. -/
def leftAt (w : World) (B : Nat) : Nat := match w.cell? ⟨B, 0, none⟩ with
  | some (.string t) => t.size
  | _ => 0
theorem leftAt_is {w : World} {B : Nat} {t : ByteArray} {v : Value} {T : TypeId} (h : w.heap[B]? = some (.cells #[.string t, v] T (0, 0))) : leftAt w B = t.size := by
  unfold leftAt
  rw [cellH h 0]
  rfl
def ownB (B : Nat) (b : Nat) : Prop := b = B ∨ b = B + 1

/-- The variable has a new word. -/
theorem box_new {W : World} {B : Nat} {x y z v v1 u u1 : Value} {T T2 : TypeId} (h : W.heap[B]? = some (.cells #[x, y] T (0, 0))) (h2 : W.heap[B + 1]? = some (.cells #[z] T2 (0, 0))) :
    ((((W.setCell ⟨B, 0, none⟩ v).setCell ⟨B, 1, none⟩ v1).setCell ⟨B, 0, none⟩ u).setCell ⟨B, 1, none⟩ u1).drew.heap[B]? = some (.cells #[u, u1] T (0, 0)) ∧
    ((((W.setCell ⟨B, 0, none⟩ v).setCell ⟨B, 1, none⟩ v1).setCell ⟨B, 0, none⟩ u).setCell ⟨B, 1, none⟩ u1).drew.heap[B + 1]? = some (.cells #[z] T2 (0, 0)) ∧
    Apart (ownB B) W ((((W.setCell ⟨B, 0, none⟩ v).setCell ⟨B, 1, none⟩ v1).setCell ⟨B, 0, none⟩ u).setCell ⟨B, 1, none⟩ u1).drew := by
  have o : ∀ (V : World) (i : Nat) (x : Value), (V.setCell ⟨B, i, none⟩ x).heap[B + 1]? = V.heap[B + 1]? := fun V i x => Below.heap_setCell V ⟨B, i, none⟩ x (B + 1) (by show B + 1 ≠ B; omega)
  have a : ∀ (V : World) (i : Nat) (x : Value), Apart (ownB B) V (V.setCell ⟨B, i, none⟩ x) := fun V i x => Apart.set (.inl rfl)
  refine ⟨?_, ?_, ((((a _ _ _).trans (a _ _ _)).trans (a _ _ _)).trans (a _ _ _)).trans Apart.drew⟩
  · exact (row_set (row_set (row_set (row_set h)))).trans (by simp)
  · show ((((W.setCell ⟨B, 0, none⟩ v).setCell ⟨B, 1, none⟩ v1).setCell ⟨B, 0, none⟩ u).setCell ⟨B, 1, none⟩ u1).heap[B + 1]? = _
    rw [o, o, o, o]
    exact h2

set_option maxHeartbeats 1000000 in
set_option maxRecDepth 100000 in
theorem parts_is (w : World) (s : ByteArray) (p c : Int) : Calls Tryz.prog 34 #[wdV s p, .int .u8 c] w fun e w' =>
    e = .returned (.func (.func 57) #[] #[.pointer (some ⟨w.heap.size, 0, none⟩), .pointer (some ⟨w.heap.size + 1, 0, none⟩)]) ∧ w' = (w.alloc (.cells #[.string s, .int .i64 p] 81)).alloc (.cells #[.int .u8 c] 5) := by
  go_enter Tryz.func34, Tryz.ntmps34
  go_wp2_with fail
  go_ret
  exact ⟨rfl, rfl⟩

section
variable {w : World} {s : ByteArray} {p B : Nat} {c : UInt8}
set_option maxHeartbeats 2000000 in
set_option maxRecDepth 100000 in
theorem parts_iter (n : Nat) (hn : 1 ≤ n) (hw : w.heap[B]? = some (.cells #[.string s, .int .i64 p] 81 (0, 0))) (hs : w.heap[B + 1]? = some (.cells #[.int .u8 c.toNat] 5 (0, 0))) (hl : p + s.size ≤ 1000000000) :
    Iter Fence.wide n Tryz.prog 57 #[.pointer (some ⟨B, 0, none⟩), .pointer (some ⟨B + 1, 0, none⟩)] (ownB B) (encW ((partsL c (bl s) p).map mkW)) ((partsL c (bl s) p).map mkW).length w := by
  intro l J Jx W hK hJ hJx hY h0
  have hw1 := (hK.block B (.inl rfl) (Array.getElem?_eq_some_iff.1 hw).1).trans hw
  have hs1 := (hK.block (B + 1) (.inr rfl) (Array.getElem?_eq_some_iff.1 hs).1).trans hs
  clear hw hs hK
  refine callsIn_of_wp Tryz.func57 rfl trivial ?_ rfl
  simp only [Tryz.ntmps57, List.size_toArray, List.length_cons, List.length_nil, Nat.reduceAdd, Nat.reduceSub, Array.replicate_succ, Array.replicate_zero, List.push_toArray, List.append_toArray, List.nil_append, List.cons_append]
  obtain ⟨ps, hps⟩ : ∃ ps, ps = (partsL c (bl s) p).map mkW := ⟨_, rfl⟩
  rw [← hps] at hY ⊢
  gi_wp2
  gi_loopw [] (fun wr => ∃ (pre : List Wd) (t : ByteArray) (q : Nat), ps = pre ++ (partsL c (bl t) q).map mkW ∧ wr.heap[B]? = some (.cells #[.string t, .int .i64 q] 81 (0, 0)) ∧ wr.heap[B + 1]? = some (.cells #[.int .u8 c.toNat] 5 (0, 0)) ∧ q + t.size ≤ 1000000000 ∧ J pre.length wr) (fun wr => leftAt wr B)
  case atStart => exact ⟨[], s, p, by rw [hps]; rfl, hw1, hs1, hl, h0⟩
  case round =>
    obtain ⟨pre, t, q, hpre, hw2, hs2, hl2, hJ2⟩ := hrel
    have hps2 := Lib.hid hps
    have hpre2 := Lib.hid hpre
    have hJ' := Lib.hid hJ2
    have x0 := cellH hw2 0
    have x1 := cellH hw2 1
    have x2 := cellH hs2 0
    have y0 := freeH hw2 0
    have y1 := freeH hw2 1
    simp at x0 x1 x2
    have HW := Lib.hid hw2
    have HS := Lib.hid hs2
    clear hw1 hs1 h0 hw2 hs2 hps hpre hJ2
    have HI := fun W : World => Tryz.strings_IndexByte t c.toNat W
    have hcc : ((c.toNat : Int).toNat.toUInt8) = c := by simp
    rw [hcc] at HI
    clear hcc
    by_cases hi : Lib.indexByte (bl t) c = -1
    · have hi2 : Lib.indexByte t.data.toList c = -1 := hi
      rw [hi2] at HI
      have hN := part_last (q := q) hi
      clear hi hi2
      rw [hN] at hpre2
      obtain ⟨fn, tmps, assign, body, hy, hR⟩ := hY pre.length wr (by rw [hpre2.out]; simp) hJ'.out
      have e1 : encW ps pre.length = #[wdV t q] := by rw [hpre2.out]; simp [encW]
      rw [e1] at hy
      have hNN : ps.length = pre.length + 1 := by rw [hpre2.out]; simp
      clear e1 hN hY
      have HNN := Lib.hid hNN
      clear hNN
      have HIH := Lib.hid HI
      clear HI
      gi_wp2
      refine ⟨trivial, (callsIn_wide.2 (HIH.out _)).mono ?_⟩
      rintro e w' ⟨rfl, rfl⟩
      gi_wp2
      refine hR.mono ?_
      rintro e W3 (⟨rfl, hJ3, hk3⟩ | ⟨rfl, hJ3⟩)
      · rw [← HNN.out] at hJ3
        have HJ3 := Lib.hid hJ3
        clear hJ3 hk3
        gi_wp2
        refine bodyPost_ret (results_none rfl _ _ _) rfl ?_
        exact ⟨⟨_, rfl⟩, .inl HJ3.out⟩
      · have HJ3 := Lib.hid hJ3
        clear hJ3
        gi_wp2
        refine bodyPost_ret (results_none rfl _ _ _) rfl ?_
        exact ⟨⟨_, rfl⟩, .inr HJ3.out⟩
    · obtain ⟨o, ho⟩ := byte_nat hi
      have ho2 : Lib.indexByte t.data.toList c = o := ho
      rw [ho2] at HI
      have hN := part_next (q := q) ho
      have hot := byte_low ho
      clear hi ho ho2
      have hpre3 := hpre2.out
      rw [hN] at hpre3
      obtain ⟨fn, tmps, assign, body, hy, hR⟩ := hY pre.length wr.drew (by rw [hpre3]; simp) (hJ _ _ _ hJ'.out Apart.drew)
      have e1 : encW ps pre.length = #[wdV (t.extract 0 o) q] := by rw [hpre3]; simp [encW]
      rw [e1] at hy
      have HP := Lib.hid hpre3
      clear e1 hN hY hpre2 hpre3
      have HIH := Lib.hid HI
      clear HI
      have i1 : ¬ (o : Int) < 0 := by omega
      have i2 : (o : Int) ≤ t.size := by omega
      have i3 : (0 : Int) ≤ (o : Int) := by omega
      gi_wp2
      refine ⟨trivial, (callsIn_wide.2 (HIH.out _)).mono ?_⟩
      rintro e w' ⟨rfl, rfl⟩
      gi_wp2
      have hm : Tryz.prog.follows .mixedOrders = true := by kernel_rfl
      obtain ⟨R3, hR3⟩ : ∃ R3 : Bool → World → Prop, R3 = fun b A => (b = true ∧ J (pre.length + 1) A ∧ Keeps (ownB B) w'.drew A) ∨ (b = false ∧ Jx A) := ⟨_, rfl⟩
      have hR4 : RoundIn Fence.wide (n - 1) Tryz.prog l fn tmps assign body w'.drew fun e A => ∃ b, e = .returned (.bool b) ∧ R3 b A := hR.mono fun e A h => by
        rcases h with ⟨rfl, h1, h2⟩ | ⟨rfl, h1⟩
        · exact ⟨true, rfl, by rw [hR3]; exact .inl ⟨rfl, h1, h2⟩⟩
        · exact ⟨false, rfl, by rw [hR3]; exact .inr ⟨rfl, h1⟩⟩
      have HR3 := Lib.hid hR3
      clear hR3 hR
      gi_region_with_o (refine hR4.mono ?_; rintro e W3 ⟨b, rfl, hb⟩)
      all_goals
        rw [HR3.out] at hb
        rcases hb with ⟨rfl, hJ3, hk3⟩ | ⟨rfl, hJ3⟩
        · have hw3 := (hk3.block B (.inl rfl) (Array.getElem?_eq_some_iff.1 HW.out).1).trans HW.out
          have hs3 := (hk3.block (B + 1) (.inr rfl) (Array.getElem?_eq_some_iff.1 HS.out).1).trans HS.out
          have z0 := cellH hw3 0
          have z1 := cellH hw3 1
          have f0 := freeH hw3 0
          have f1 := freeH hw3 1
          simp at z0 z1
          have HW3 := Lib.hid hw3
          have HS3 := Lib.hid hs3
          have HJ3 := Lib.hid hJ3
          have hla := leftAt_is HW.out
          have i4 : IntKind.i64.wrap ((o : Int) + 1) = o + 1 := IntWalk.i64_in _ (by omega)
          have i5 : IntKind.i64.wrap ((q : Int) + (o : Int)) = q + o := IntWalk.i64_in _ (by omega)
          have i6 : IntKind.i64.wrap ((q : Int) + (o : Int) + 1) = q + o + 1 := IntWalk.i64_in _ (by omega)
          have i7 : (o : Int) + 1 ≤ t.size := by omega
          have i8 : (0 : Int) ≤ (o : Int) + 1 := by omega
          have i9 : ((o : Int) + 1).toNat = o + 1 := by omega
          clear x0 x1 x2 y0 y1 hk3 hJ3 hs3 hw3 hy hR4
          gi_wp2
          gi_region
          all_goals
            have HN := Lib.hid (box_new HW3.out HS3.out (v := .string ⟨#[]⟩) (v1 := .int .i64 0) (u := .string (t.extract (o + 1) t.size)) (u1 := .int .i64 ((q : Int) + o + 1)))
            clear z0 z1 f0 f1
            gi_wp2
            go_roundw
            case rel =>
              refine ⟨pre ++ [⟨t.extract 0 o, q⟩], t.extract (o + 1) t.size, q + o + 1, by rw [HP.out, List.append_assoc]; rfl, HN.out.1, HN.out.2.1, ?_, by rw [List.length_append]; exact hJ _ _ _ HJ3.out HN.out.2.2⟩
              rw [ByteArray.size_extract]
              omega
            case measure =>
              rw [leftAt_is HN.out.1, hla, ByteArray.size_extract]
              omega
        · have HJ3 := Lib.hid hJ3
          clear hJ3
          gi_wp2
          refine bodyPost_ret (results_none rfl _ _ _) rfl ?_
          exact ⟨⟨_, rfl⟩, .inr HJ3.out⟩
end
end Go.Proofs.YtcfnmjhelhdobaaGreatDoor
