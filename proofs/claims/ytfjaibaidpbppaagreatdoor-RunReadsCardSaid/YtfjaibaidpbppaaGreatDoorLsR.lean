/-
  What the document's Same (package lockageref08) answers. Conditions: a million tasks at most, each behind a million at most. What the document's Right (package lockageref08) answers of a pipeline that may be. No conditions. Pipelines whose After holds any numbers: their words, when they may be, how they stand in memory. No conditions. The program's Name, Number and Label. Conditions: lengths; what the library's variables hold. The greatest that each number of a try may be, its six numbers as one value, and Right: what the program's lease answers. No conditions.
-/
import Derived.Test.YtfjaibaidpbppaaGreatDoorLexU
import Derived.Test.YtfjaibaidpbppaaGreatDoorRnP
import Derived.BigQuiet
import Derived.Deep.QuietTactic
import Derived.Test.YtfjaibaidpbppaaGreatDoorChain
import Derived.Test.YtfjaibaidpbppaaGreatDoorFirst
import Derived.Test.YtfjaibaidpbppaaGreatDoorLsA
namespace Go.Proofs.YtfjaibaidpbppaaGreatDoor
open Go.RowKit

theorem cell_of {w : World} {p q : Addr} {v : Value} (hb : p.block = q.block) (ho : p.off = q.off) (hq : q.spot = none) (h : w.cell? p = some v) : w.cell? q = some v := by
  unfold World.cell? at h ⊢
  rw [hb, ho] at h
  rw [hq]
  split at h
  · split at h
    · cases h
    · simpa using h
  · cases h
theorem add_off (ad : Addr) (k : Nat) : (ad.add k).off = ad.off + k := by
  unfold Addr.add
  split
  · omega
  · rfl
theorem TksAt.at_ {w : World} {A : Option Addr} {ts : List TkP} (h : TksAt w A ts) {i : Nat} {t : TkP} (hi : ts[i]? = some t) :
    ∃ ad B c, A = some ad ∧ w.cell? (ad.add (i * 7)) = some (.string t.name) ∧ (∀ (j : Nat) (v : Value), (tkC t (.slice B t.after.length c))[j]? = some v → w.cell? ⟨(ad.add (i * 7)).block, (ad.add (i * 7)).off + j, none⟩ = some v) ∧ NatsAt w B t.after ∧ t.after.length ≤ c := by
  obtain ⟨ad, e, hc⟩ := h (by have := (List.getElem?_eq_some_iff.1 hi).1; omega)
  obtain ⟨B, c, h1, h2, h3⟩ := hc i t hi
  refine ⟨ad, B, c, e, h1 0 _ rfl, fun j v hj => ?_, h2, h3⟩
  exact cell_of (by rw [add_block, add_block]) (by simp only [add_off]; omega) rfl (h1 j v hj)
/-- A task's numbers but those of After, its name. -/
def headS (t u : TkP) : Bool := decide (t.name = u.name ∧ t.retry = u.retry ∧ t.time = u.time ∧ t.need = u.need ∧ t.lv = u.lv ∧ t.st = u.st ∧ t.after.length = u.after.length)
theorem sameT_head {t u : TkP} (h : headS t u = false) : sameT t u = false := by
  cases hs : sameT t u with
  | false => rfl
  | true =>
    obtain rfl := sameT_iff.1 hs
    rw [← h, headS, eq_comm]
    exact decide_eq_true ⟨rfl, rfl, rfl, rfl, rfl, rfl, rfl⟩
theorem sameT_after {t u : TkP} (h : headS t u = true) : sameT t u = decide (t.after = u.after) := by
  obtain ⟨h1, h2, h3, h4, h5, h6, _⟩ := of_decide_eq_true h
  simp [sameT, h1, h2, h3, h4, h5, h6]
abbrev tkA (t : TkP) (B : Option Addr) (c : Nat) : Array Value := #[.string t.name, .slice B t.after.length c, .int .i64 t.retry, .int .i64 t.time, .int .i64 t.need, .int .i64 t.lv, .int .u16 t.st]

theorem Below.drewN_ {w W : World} {n : Nat} (h : Below n w W) (k : Nat) : Below n w (W.drewN k) := ⟨h.os, h.tape, h.output, h.size, h.block⟩
theorem two_made (w : World) (o1 o2 : Obj) : ((w.alloc o1).alloc o2).drew.heap[w.heap.size]? = some o1 ∧ ((w.alloc o1).alloc o2).drew.heap[w.heap.size + 1]? = some o2 ∧ Below w.heap.size w ((w.alloc o1).alloc o2).drew := by
  have b1 := (Below.refl w.heap.size w).alloc (Nat.le_refl _) o1
  have b2 := (Below.refl _ (w.alloc o1)).alloc (Nat.le_refl _) o2
  have m2 := made_at (w.alloc o1) o2
  rw [World.size_alloc] at m2
  exact ⟨later_at b2.drew (made_at w o1), m2, (below_step b1 b2).drew⟩
section
variable {w : World} {A B : Option Addr} {c d : Nat} {n m : ByteArray} {ts us : List TkP}
end
end Go.Proofs.YtfjaibaidpbppaaGreatDoor

namespace Go.Proofs.YtfjaibaidpbppaaGreatDoor
open Go.RowKit

theorem name_call {s : ByteArray} (h : nameOk s) (w : World) : Calls Tryz.prog 59 #[.string s] w fun e w' => e = .returned (.bool true) ∧ w = w' := by
  have h2 := refname_is s (by have := h.2.1; omega) w
  have h3 : nameP s = true := decide_eq_true h
  rwa [h3] at h2
theorem nodup_ne {α : Type} {l : List α} (h : l.Nodup) {i j : Nat} {a b : α} (hi : l[i]? = some a) (hj : l[j]? = some b) (hij : i ≠ j) : a ≠ b := by
  rw [List.nodup_iff_pairwise_ne, List.pairwise_iff_getElem] at h
  obtain ⟨h1, rfl⟩ := List.getElem?_eq_some_iff.1 hi
  obtain ⟨h2, rfl⟩ := List.getElem?_eq_some_iff.1 hj
  rcases Nat.lt_or_gt_of_ne hij with h3 | h3
  · exact h i j h1 h2 h3
  · exact (h j i h2 h1 h3).symm
section
variable {w : World} {A : Option Addr} {c : Nat} {n : ByteArray} {ts : List TkP}
set_option maxHeartbeats 4000000 in
set_option maxRecDepth 100000 in
theorem refrightp_is (hA : TksAt w A ts) (hR : RightPi ⟨n, ts⟩) :
    Calls Tryz.prog 31 #[.agg #[.string n, .slice A ts.length c]] w fun e w' => e = .returned (.bool true) ∧ Below w.heap.size w w' := by
  have b1 := (Below.refl w.heap.size w).alloc (Nat.le_refl _) (.cells #[.string n, .slice A ts.length c] 24)
  have HB0 := Lib.hid b1
  have HX := Lib.hid (made_at w (.cells #[.string n, .slice A ts.length c] 24))
  have HA := Lib.hid (hA.later b1)
  have HN := Lib.hid (name_call hR.name)
  have HT := Lib.hid hR.task
  have HD := Lib.hid hR.names
  have hf1 : 1 ≤ ts.length := hR.few.1
  have hf8 : ts.length ≤ 8 := hR.few.2
  clear b1 hA hR
  go_enter Tryz.func31, Tryz.ntmps31
  go_upto_region 1 with fail
  generalize hW0 : (w.alloc (.cells #[.string n, .slice A ts.length c] 24)) = W0 at *
  clear hW0
  have x0 := cellH HX.out 0
  have x1 := cellH HX.out 1
  simp at x0 x1
  have g1 : ¬ (ts.length : Int) < 1 := by omega
  have g8 : ¬ (8 : Int) < (ts.length : Int) := by omega
  go_wp2_with fail
  refine (HN.out _).mono ?_
  rintro e w1 ⟨rfl, rfl⟩
  go_wp2_with fail
  go_loopw [3] (fun i wr => ∃ k : Nat, i = .int .i64 k ∧ k ≤ ts.length ∧ Below W0.heap.size W0 wr) (fun i _ => ts.length - (intOf i).toNat)
  case atStart => exact ⟨0, rfl, Nat.zero_le _, Below.refl _ _⟩
  case round =>
    obtain ⟨k, rfl, hk, hbw⟩ := hrel
    have HBW := Lib.hid hbw
    clear hbw x0 x1
    have x0 := cellH (later_at HBW.out HX.out) 0
    have x1 := cellH (later_at HBW.out HX.out) 1
    simp at x0 x1
    by_cases hlt : k < ts.length
    · obtain ⟨t, ht⟩ : ∃ t, ts[k]? = some t := ⟨_, List.getElem?_eq_getElem hlt⟩
      have hT := HT.out t (List.mem_of_getElem? ht)
      have HNT := Lib.hid (name_call hT.name)
      have HLB := Lib.hid (refright_is t.lv t.st true (rightB_iff.2 ⟨hT.lab.1, hT.lab.2.1⟩))
      have HGT := Lib.hid ht
      obtain ⟨pa, B1, c1, rfl, p0, pj, hN1, _⟩ := (HA.out.later HBW.out).at_ ht
      have HN1 := Lib.hid hN1
      have p1 := pj 1 _ rfl
      have p2 := pj 2 _ rfl
      have p3 := pj 3 _ rfl
      have p4 := pj 4 _ rfl
      have p5 := pj 5 _ rfl
      have p6 := pj 6 _ rfl
      have HTT := Lib.hid hT
      clear pj hN1 ht hT
      have hk0 : (0 : Int) ≤ (k : Int) := by omega
      have hkl : (k : Int) < (ts.length : Int) := by omega
      go_upto_region 7 with fail
      have hbc := (Below.refl wr.heap.size wr).alloc (Nat.le_refl _) (.cells (tkA t B1 c1) 65)
      have HXC := Lib.hid (made_at wr (.cells (tkA t B1 c1) 65))
      have HBC := Lib.hid (below_step HBW.out hbc)
      have HNA := Lib.hid (HN1.out.later hbc)
      have HX2 := Lib.hid (later_at HBC.out HX.out)
      have HA2 := Lib.hid (HA.out.later HBC.out)
      clear hbc p0 p1 p2 p3 p4 p5 p6 x0 x1 HN1
      generalize hWC : (wr.alloc (.cells (tkA t B1 c1) 65)) = wc at *
      have hblk : wr.heap.size < wc.heap.size := by rw [← hWC, World.size_alloc]; omega
      clear hWC
      have p0 := cellH HXC.out 0
      have p1 := cellH HXC.out 1
      have p2 := cellH HXC.out 2
      have p3 := cellH HXC.out 3
      have p4 := cellH HXC.out 4
      have p5 := cellH HXC.out 5
      have p6 := cellH HXC.out 6
      simp at p0 p1 p2 p3 p4 p5 p6
      have q1 : ¬ t.time < 1 := by have := HTT.out.time; omega
      have q2 : ¬ 100 < t.time := by have := HTT.out.time; omega
      have q3 : ¬ t.need < 0 := by have := HTT.out.need; omega
      have q4 : ¬ 4 < t.need := by have := HTT.out.need; omega
      have q5 : ¬ t.retry < 0 := by have := HTT.out.retry; omega
      have q6 : ¬ 5 < t.retry := by have := HTT.out.retry; omega
      go_wp2_with fail
      refine (HNT.out _).mono ?_
      rintro e w2 ⟨rfl, rfl⟩
      go_wp2_with fail
      refine (HLB.out _).mono ?_
      rintro e w3 ⟨rfl, hb3⟩
      have hx3 := later_at hb3 HXC.out
      clear p0 p1 p2 p3 p4 p5 p6
      have p2 := cellH hx3 2
      have p4 := cellH hx3 4
      have p5 := cellH hx3 5
      have p6 := cellH hx3 6
      simp at p2 p4 p5 p6
      have HXC3 := Lib.hid hx3
      have HBC3 := Lib.hid (below_step HBC.out hb3)
      have HNA3 := Lib.hid (HNA.out.later hb3)
      have HX3 := Lib.hid (later_at hb3 HX2.out)
      have HA3 := Lib.hid (HA2.out.later hb3)
      clear hx3 hb3 HXC HBC HNA HX2 HA2
      go_upto_region 9 with fail
      clear q1 q2 q3 q4 q5 q6
      go_cut [94] (fun e wx => wx = w3 ∧ e = .bool false)
      case first =>
        by_cases hg : t.need = 0
        · have n1 : (t.need == 0) = true := by rw [hg]; rfl
          have n2 : ¬ 0 < t.need := by omega
          have n3 : sameB t.lv t.st 0 0 = true := sameB_iff.2 (HTT.out.plain hg)
          clear hg
          go_wp2_with fail
          go_meet
          exact ⟨rfl, rfl⟩
        · have n1 : (t.need == 0) = false := beq_eq_false_iff_ne.2 hg
          have n2 : 0 < t.need := by have := HTT.out.need; omega
          have n3 : (t.retry != 0) = false := by rw [bne_eq_false_iff_eq]; exact HTT.out.gate n2
          clear hg
          go_wp2_with fail
          go_meet
          exact ⟨rfl, rfl⟩
      case rest =>
      obtain ⟨rfl, rfl⟩ := hcut
      clear p2 p4 p5 p6
      go_wp2_with fail
      go_loopw [5] (fun i wo => ∃ j : Nat, i = .int .i64 j ∧ j ≤ k ∧ Below wc.heap.size wc wo) (fun i _ => k - (intOf i).toNat)
      case atStart => exact ⟨0, rfl, Nat.zero_le _, Below.refl _ _⟩
      case round =>
        obtain ⟨j, rfl, hj, hbo⟩ := hrel
        have HBO := Lib.hid hbo
        clear hbo
        by_cases hlj : j < k
        · obtain ⟨u, hu⟩ : ∃ u, ts[j]? = some u := ⟨_, List.getElem?_eq_getElem (by omega)⟩
          have HNE := Lib.hid (show u.name ≠ t.name from nodup_ne HD.out (i := j) (j := k) (by rw [List.getElem?_map, hu]; rfl) (by rw [List.getElem?_map, HGT.out]; rfl) (by omega))
          have hne : (u.name.toList == t.name.toList) = false := by rw [ba_same]; exact decide_eq_false HNE.out
          obtain ⟨pb, B2, c2, epb, r0, _, _⟩ := (HA3.out.later HBO.out).at_ hu
          obtain rfl : pa = pb := by injection epb
          have x1 := cellH (later_at HBO.out HX3.out) 1
          have p0 := cellH (later_at HBO.out HXC3.out) 0
          simp at x1 p0
          have hj0 : (0 : Int) ≤ (j : Int) := by omega
          have hjl : (j : Int) < (ts.length : Int) := by omega
          have hjk : (j : Int) < (k : Int) := by omega
          clear hu HNE epb
          go_upto_region 14 with fail
          go_quiet (fail)
          go_wp2_with fail
          go_roundw
          case rel => exact ⟨j + 1, by go_num, by omega, Below.drewN_ HBO.out _⟩
          case measure => simp [intOf]; omega
        · have hjk : ¬ (j : Int) < (k : Int) := by omega
          clear hlj
          have HBC4 := Lib.hid (below_step HBC3.out HBO.out)
          have HNA4 := Lib.hid (HNA3.out.later HBO.out)
          have HX4 := Lib.hid (later_at HBO.out HX3.out)
          have HXC4 := Lib.hid (later_at HBO.out HXC3.out)
          have HAT := Lib.hid HTT.out.aft
          have hfa : t.after.length ≤ ts.length := few_below _ _ HTT.out.aft.1 HTT.out.aft.2
          go_wp2_with fail
          go_loopw [6] (fun i wp => ∃ a : Nat, i = .int .i64 a ∧ a ≤ t.after.length ∧ Below wr.heap.size wr wp) (fun i _ => t.after.length - (intOf i).toNat)
          case atStart => exact ⟨0, rfl, Nat.zero_le _, Below.refl _ _⟩
          case round =>
            obtain ⟨a, rfl, ha, hbp⟩ := hrel
            have HBP := Lib.hid hbp
            clear hbp
            have x1 := cellH (later_at HBP.out HX4.out) 1
            have p1 := cellH (later_at HBP.out HXC4.out) 1
            simp at x1 p1
            by_cases hla : a < t.after.length
            · obtain ⟨v, hv⟩ : ∃ v, t.after[a]? = some v := ⟨_, List.getElem?_eq_getElem hla⟩
              have hvl : v < ts.length := HAT.out.1 v (List.mem_of_getElem? hv)
              obtain ⟨ad, rfl, y0⟩ := (HNA4.out.later HBP.out).at_ hv
              have HGV := Lib.hid hv
              have ha0 : (0 : Int) ≤ (a : Int) := by omega
              have hal : (a : Int) < (t.after.length : Int) := by omega
              have v0 : ¬ (v : Int) < 0 := by omega
              have v1 : ¬ (ts.length : Int) ≤ (v : Int) := by omega
              clear hv hvl
              go_upto_region 19 with fail
              go_quiet (fail)
              clear x1 p1
              go_wp2_with fail
              go_loopw [7] (fun i wq => ∃ b : Nat, i = .int .i64 b ∧ b ≤ a ∧ Below wr.heap.size wr wq) (fun i _ => a - (intOf i).toNat)
              case atStart => exact ⟨0, rfl, Nat.zero_le _, Below.drewN_ (Below.refl _ _) _⟩
              case round =>
                obtain ⟨b, rfl, hb, hbq⟩ := hrel
                have HBQ := Lib.hid hbq
                clear hbq
                have hb5 := HBP.out.trans (HBQ.out.mono HBP.out.size)
                by_cases hlb : b < a
                · obtain ⟨u, hu⟩ : ∃ u, t.after[b]? = some u := ⟨_, List.getElem?_eq_getElem (by omega)⟩
                  have hne : u ≠ v := nodup_ne HAT.out.2 hu HGV.out (by omega)
                  have hne2 : ((u : Int) == (v : Int)) = false := beq_eq_false_iff_ne.2 (by omega)
                  obtain ⟨ad2, ead, y1⟩ := (HNA4.out.later hb5).at_ hu
                  obtain rfl : ad = ad2 := by injection ead
                  obtain ⟨ad3, ead3, y2⟩ := (HNA4.out.later hb5).at_ HGV.out
                  obtain rfl : ad = ad3 := by injection ead3
                  have p1 := cellH (later_at hb5 HXC4.out) 1
                  simp at p1
                  have hb0 : (0 : Int) ≤ (b : Int) := by omega
                  have hbl : (b : Int) < (t.after.length : Int) := by omega
                  have hba : (b : Int) < (a : Int) := by omega
                  clear hu hne ead ead3 hb5
                  go_upto_region 24 with fail
                  go_quiet (fail)
                  go_wp2_with fail
                  go_roundw
                  case rel => exact ⟨b + 1, by go_num, by omega, Below.drewN_ HBQ.out _⟩
                  case measure => simp [intOf]; omega
                · have hba : ¬ (b : Int) < (a : Int) := by omega
                  have HB5 := Lib.hid hb5
                  clear hb5
                  go_wp2_with fail
                  go_roundw
                  case rel => exact ⟨a + 1, by go_num, by omega, HB5.out⟩
                  case measure => simp [intOf]; omega
            · have hal : ¬ (a : Int) < (t.after.length : Int) := by omega
              have HB6 := Lib.hid (below_step HBC4.out HBP.out)
              go_wp2_with fail
              go_roundw
              case rel => exact ⟨k + 1, by go_num, by omega, HB6.out⟩
              case measure => simp [intOf]; omega
    · have hlk : ¬ (k : Int) < (ts.length : Int) := by omega
      go_wp2_with fail
      go_ret
      exact ⟨rfl, below_step HB0.out HBW.out⟩
end
end Go.Proofs.YtfjaibaidpbppaaGreatDoor

namespace Go.Proofs.YtfjaibaidpbppaaGreatDoor
open Go.RowKit

structure TkI where
  name : ByteArray
  after : List Int
  retry : Int
  time : Int
  need : Int
  lv : Int
  st : Int
def TkI.toP (t : TkI) : TkP := ⟨t.name, t.after.map Int.toNat, t.retry, t.time, t.need, t.lv, t.st⟩
/-- Few: what the laws ask first. -/
def FewI (n : ByteArray) (ts : List TkI) : Prop := (∀ t ∈ ts, t.after.length ≤ 20 ∧ t.name.size ≤ 100) ∧ ts.length ≤ 20 ∧ n.size ≤ 100
/-- After's numbers: each a task's place, none twice. -/
def AftI (n : Nat) (l : List Int) : Prop := ∀ (i : Nat) (v : Int), l[i]? = some v → 0 ≤ v ∧ v < n ∧ ∀ (j : Nat) (u : Int), j < i → l[j]? = some u → u ≠ v
structure TaskI (n : Nat) (t : TkI) : Prop where
  name : nameOk t.name
  time : 1 ≤ t.time ∧ t.time ≤ 100
  need : 0 ≤ t.need ∧ t.need ≤ 4
  retry : 0 ≤ t.retry ∧ t.retry ≤ 5
  lab : 0 ≤ t.lv ∧ t.lv ≤ 7
  plain : t.need = 0 → t.lv = 0 ∧ t.st = 0
  gate : 0 < t.need → t.retry = 0
  aft : AftI n t.after
structure RightI (n : ByteArray) (ts : List TkI) : Prop where
  name : nameOk n
  few : 1 ≤ ts.length ∧ ts.length ≤ 8
  task : ∀ (i : Nat) t, ts[i]? = some t → TaskI ts.length t ∧ ∀ (j : Nat) u, j < i → ts[j]? = some u → u.name ≠ t.name
theorem AftI.low {n : Nat} {l : List Int} (h : AftI n l) : ∀ j ∈ l.map Int.toNat, j < n := by
  intro j hj
  obtain ⟨v, hv, rfl⟩ := List.mem_map.1 hj
  obtain ⟨i, hi, rfl⟩ := List.getElem_of_mem hv
  have := h i _ (List.getElem?_eq_getElem hi)
  omega
theorem AftI.once {n : Nat} {l : List Int} (h : AftI n l) : (l.map Int.toNat).Nodup := by
  rw [List.nodup_iff_pairwise_ne, List.pairwise_iff_getElem]
  intro i j hi hj hij
  rw [List.length_map] at hi hj
  rw [List.getElem_map, List.getElem_map]
  have h1 := h j _ (List.getElem?_eq_getElem hj)
  have h2 := h i _ (List.getElem?_eq_getElem hi)
  have h3 := h1.2.2 i _ hij (List.getElem?_eq_getElem hi)
  omega
/-- It may be, in the words of the layer before. -/
theorem RightI.right {n : ByteArray} {ts : List TkI} (h : RightI n ts) (hs : ∀ t ∈ ts, 0 ≤ t.st ∧ t.st ≤ 65535) : RightPi ⟨n, ts.map TkI.toP⟩ := by
  refine ⟨h.name, ?_, ?_, ?_⟩
  · simpa using h.few
  · intro t ht
    obtain ⟨u, hu, rfl⟩ := List.mem_map.1 ht
    obtain ⟨i, hi, rfl⟩ := List.getElem_of_mem hu
    have h1 := (h.task i _ (List.getElem?_eq_getElem hi)).1
    have h2 := hs _ hu
    show TaskOk (ts.map TkI.toP).length _
    rw [List.length_map]
    exact ⟨h1.name, h1.time, h1.need, h1.retry, ⟨h1.lab.1, h1.lab.2, h2⟩, h1.plain, h1.gate, h1.aft.low, h1.aft.once⟩
  · rw [List.nodup_iff_pairwise_ne, List.pairwise_iff_getElem]
    intro i j hi hj hij
    simp only [List.length_map] at hi hj
    have h2 := (h.task j _ (List.getElem?_eq_getElem hj)).2 i _ hij (List.getElem?_eq_getElem hi)
    simpa [TkI.toP] using h2
/-- The numbers l stand at A. -/
def NumsAt (w : World) (A : Option Addr) (l : List Int) : Prop := 0 < l.length → ∃ ad, A = some ad ∧ ∀ (i : Nat) (n : Int), l[i]? = some n → w.cell? (ad.add i) = some (.int .i64 n)
theorem NumsAt.later {w w' : World} {A : Option Addr} {l : List Int} (h : NumsAt w A l) (hb : Below w.heap.size w w') : NumsAt w' A l := fun hn => by
  obtain ⟨ad, e, hc⟩ := h hn
  exact ⟨ad, e, fun i n hi => cell_later hb (hc i n hi)⟩
theorem NumsAt.at_ {w : World} {A : Option Addr} {l : List Int} (h : NumsAt w A l) {i : Nat} {n : Int} (hi : l[i]? = some n) : ∃ ad, A = some ad ∧ w.cell? (ad.add i) = some (.int .i64 n) := by
  obtain ⟨ad, e, hc⟩ := h (by have := (List.getElem?_eq_some_iff.1 hi).1; omega)
  exact ⟨ad, e, hc i n hi⟩
def tkiC (t : TkI) (tv : Value) : List Value := [.string t.name, tv, .int .i64 t.retry, .int .i64 t.time, .int .i64 t.need, .int .i64 t.lv, .int .u16 t.st]
abbrev tkiA (t : TkI) (B : Option Addr) (c : Nat) : Array Value := #[.string t.name, .slice B t.after.length c, .int .i64 t.retry, .int .i64 t.time, .int .i64 t.need, .int .i64 t.lv, .int .u16 t.st]
def TksI (w : World) (A : Option Addr) (ts : List TkI) : Prop := 0 < ts.length → ∃ ad, A = some ad ∧ ∀ (i : Nat) (t : TkI), ts[i]? = some t → ∃ B c, (∀ (j : Nat) (v : Value), (tkiC t (.slice B t.after.length c))[j]? = some v → w.cell? (ad.add (i * 7 + j)) = some v) ∧ NumsAt w B t.after ∧ t.after.length ≤ c
theorem TksI.later {w w' : World} {A : Option Addr} {ts : List TkI} (h : TksI w A ts) (hb : Below w.heap.size w w') : TksI w' A ts := fun hn => by
  obtain ⟨ad, e, hc⟩ := h hn
  refine ⟨ad, e, fun i t hi => ?_⟩
  obtain ⟨B, c, h1, h2, h3⟩ := hc i t hi
  exact ⟨B, c, fun j v hj => cell_later hb (h1 j v hj), h2.later hb, h3⟩
theorem TksI.at_ {w : World} {A : Option Addr} {ts : List TkI} (h : TksI w A ts) {i : Nat} {t : TkI} (hi : ts[i]? = some t) :
    ∃ ad B c, A = some ad ∧ w.cell? (ad.add (i * 7)) = some (.string t.name) ∧ (∀ (j : Nat) (v : Value), (tkiC t (.slice B t.after.length c))[j]? = some v → w.cell? ⟨(ad.add (i * 7)).block, (ad.add (i * 7)).off + j, none⟩ = some v) ∧ NumsAt w B t.after ∧ t.after.length ≤ c := by
  obtain ⟨ad, e, hc⟩ := h (by have := (List.getElem?_eq_some_iff.1 hi).1; omega)
  obtain ⟨B, c, h1, h2, h3⟩ := hc i t hi
  refine ⟨ad, B, c, e, h1 0 _ rfl, fun j v hj => ?_, h2, h3⟩
  exact cell_of (by rw [add_block, add_block]) (by simp only [add_off]; omega) rfl (h1 j v hj)
theorem NumsAt.nats {w : World} {A : Option Addr} {l : List Int} (h : NumsAt w A l) (h0 : ∀ v ∈ l, 0 ≤ v) : NatsAt w A (l.map Int.toNat) := fun hn => by
  rw [List.length_map] at hn
  obtain ⟨ad, e, hc⟩ := h hn
  refine ⟨ad, e, fun i n hi => ?_⟩
  rw [List.getElem?_map, Option.map_eq_some_iff] at hi
  obtain ⟨v, hv, rfl⟩ := hi
  rw [hc i v hv, Int.toNat_of_nonneg (h0 v (List.mem_of_getElem? hv))]
/-- One that may be stands as the layer before says. -/
theorem TksI.tks {w : World} {A : Option Addr} {ts : List TkI} (h : TksI w A ts) (h0 : ∀ t ∈ ts, ∀ v ∈ t.after, 0 ≤ v) : TksAt w A (ts.map TkI.toP) := fun hn => by
  rw [List.length_map] at hn
  obtain ⟨ad, e, hc⟩ := h hn
  refine ⟨ad, e, fun i t hi => ?_⟩
  rw [List.getElem?_map, Option.map_eq_some_iff] at hi
  obtain ⟨u, hu, rfl⟩ := hi
  obtain ⟨B, c, h1, h2, h3⟩ := hc i u hu
  refine ⟨B, c, fun j v hj => h1 j v ?_, h2.nats (h0 u (List.mem_of_getElem? hu)), ?_⟩
  · simpa [tkC, tkiC, TkI.toP] using hj
  · simpa [TkI.toP] using h3
end Go.Proofs.YtfjaibaidpbppaaGreatDoor

namespace Go.Proofs.YtfjaibaidpbppaaGreatDoor
open Go.RowKit Go.Shelf

/-- The greater one, kept whole in a walk. -/
def maxI (x y : Int) : Int := if y > x then y else x
@[go_sem ↓] theorem run_maxI {P : Program} (w : World) (ts : Array TypeId) (t : TypeId) (k k' : IntKind) (x y : Int) : (Builtin.max_ ts t #[.int k x, .int k' y]).run P w = .ok (.int k (maxI x y)) w := run_max_int2 (w := w) ts t k k' x y
theorem maxI_low {n lo : Int} : n < maxI lo 0 ↔ n < 0 ∨ n < lo := by
  unfold maxI
  split <;> omega

set_option maxHeartbeats 1000000 in
set_option maxRecDepth 100000 in
theorem name_is (w : World) (t : ByteArray) (p : Int) : Calls Tryz.prog 99 #[wdV t p] w (OneOut w (if nameP t then some (.string t) else none) (.string ⟨#[]⟩) 15 p) := by
  have HIS := Lib.hid (fun A : World => isname_is t A)
  by_cases hnm : nameP t = true
  · have ht : t.size ≤ 8 := (of_decide_eq_true hnm).2.1
    have HO := Lib.hid (fun A : World => own_is A t p (by omega))
    rw [hnm] at HIS
    rw [if_pos hnm]
    clear hnm
    go_enter Tryz.func99, Tryz.ntmps99
    go_wp2_with fail
    refine (HIS.out _).mono ?_
    rintro e w1 ⟨rfl, rfl⟩
    go_wp2_with fail
    refine (HO.out _).mono ?_
    rintro e w2 ⟨rfl, hb⟩
    have HB := Lib.hid (below_step ((Below.refl w.heap.size w).alloc (Nat.le_refl _) (.cells #[.string t, .int .i64 p] 148)) hb)
    clear hb
    dsimp only [wdV]
    have hfd : ∀ W : World, (Instr.field 148 (.agg #[.string t, .int .i64 p]) 0).run Tryz.prog W = .ok (.string t) W := fun _ => by kernel_rfl
    go_wp2_with fail
    go_ret2
    exact ⟨HB.out, rfl⟩
  · have hnm := Bool.eq_false_iff.2 hnm
    have HF := Lib.hid (fun A : World => fault_is A p 15)
    rw [hnm] at HIS
    rw [hnm]
    clear hnm
    go_enter Tryz.func99, Tryz.ntmps99
    go_wp2_with fail
    refine (HIS.out _).mono ?_
    rintro e w1 ⟨rfl, rfl⟩
    go_wp2_with fail
    refine (HF.out _).mono ?_
    rintro e w2 ⟨F, rfl, hF, _, hb⟩
    have HB := Lib.hid (below_step ((Below.refl w.heap.size w).alloc (Nat.le_refl _) (.cells #[.string t, .int .i64 p] 148)) hb)
    have HFA := Lib.hid hF
    clear hb hF
    unfold fltV
    go_wp2_with fail
    go_ret2
    exact ⟨HB.out, F, rfl, HFA.out⟩

end Go.Proofs.YtfjaibaidpbppaaGreatDoor

namespace Go.Proofs.YtfjaibaidpbppaaGreatDoor
open Go.RowKit

abbrev z6 : Array Value := #[.int .i64 0, .int .i64 0, .int .i64 0, .int .i64 0, .int .i64 0, .int .i64 0]
theorem two_try (w : World) (t : TrP) : ((w.alloc (.cells (tryA t) 73)).alloc (.cells z6 73)).heap[w.heap.size]? = some (.cells (tryA t) 73 (0, 0)) ∧ ((w.alloc (.cells (tryA t) 73)).alloc (.cells z6 73)).heap[w.heap.size + 1]? = some (.cells z6 73 (0, 0)) ∧ Below w.heap.size w ((w.alloc (.cells (tryA t) 73)).alloc (.cells z6 73)) := by
  have m2 := made_at (w.alloc (.cells (tryA t) 73)) (.cells z6 73)
  rw [World.size_alloc] at m2
  exact ⟨later_at ((Below.refl _ _).alloc (Nat.le_refl _) _) (made_at w _), m2, ((Below.refl w.heap.size w).alloc (Nat.le_refl _) _).alloc (by simp) _⟩
theorem cells6 {W : World} {g : Nat} {a0 a1 a2 a3 a4 a5 : Value} {T : TypeId} (h1 : W.heap[g]? = some (.cells #[a0, a1, a2, a3, a4, a5] T (0, 0))) :
    (W.cell? ⟨g, 0, none⟩ = some a0 ∧ W.cell? ⟨g, 1, none⟩ = some a1 ∧ W.cell? ⟨g, 2, none⟩ = some a2 ∧ W.cell? ⟨g, 3, none⟩ = some a3 ∧ W.cell? ⟨g, 4, none⟩ = some a4 ∧ W.cell? ⟨g, 5, none⟩ = some a5) ∧
    W.frozen? ⟨g, 0, none⟩ = false ∧ W.frozen? ⟨g, 1, none⟩ = false ∧ W.frozen? ⟨g, 2, none⟩ = false ∧ W.frozen? ⟨g, 3, none⟩ = false ∧ W.frozen? ⟨g, 4, none⟩ = false ∧ W.frozen? ⟨g, 5, none⟩ = false :=
  ⟨⟨by rw [cellH h1]; rfl, by rw [cellH h1]; rfl, by rw [cellH h1]; rfl, by rw [cellH h1]; rfl, by rw [cellH h1]; rfl, by rw [cellH h1]; rfl⟩, freeH h1 0, freeH h1 1, freeH h1 2, freeH h1 3, freeH h1 4, freeH h1 5⟩

/-- The greatest that each number of a try in a state may be. -/
def limP (st : Int) : TrP := if st = 1 then ⟨4, 1000000, 6, 0, 0, 0⟩ else if st = 2 then ⟨4, 0, 6, 1000000, 1000000, 1000000⟩ else ⟨4, 0, 6, 0, 0, 0⟩
def upTo1 (x m : Int) : Bool := decide (0 ≤ x) && decide (x ≤ m)
/-- Each number from 0 to the greatest one. -/
def allUp (t m : TrP) : Bool := upTo1 t.st m.st && upTo1 t.sn m.sn && upTo1 t.ms m.ms && upTo1 t.wk m.wk && upTo1 t.ls m.ls && upTo1 t.un m.un
theorem upTo1_iff {x m : Int} : upTo1 x m = true ↔ 0 ≤ x ∧ x ≤ m := by unfold upTo1; simp
theorem allUp_right (t : TrP) : allUp t (limP t.st) = rightT t := by
  rw [Bool.eq_iff_iff]
  unfold allUp rightT mostB limP
  simp only [Bool.and_eq_true, Bool.or_eq_true, decide_eq_true_eq, beq_iff_eq, upTo1_iff]
  by_cases h1 : t.st = 1
  · rw [if_pos h1]; simp only []; omega
  · rw [if_neg h1]
    by_cases h2 : t.st = 2
    · rw [if_pos h2]; simp only []; omega
    · rw [if_neg h2]; simp only []; omega
theorem info_six : (Tryz.prog.info? 140).map (·.size) = some 6 := by kernel_rfl
theorem two_z6 (w : World) : ((w.alloc (.cells z6 73)).alloc (.cells z6 73)).heap[w.heap.size]? = some (.cells z6 73 (0, 0)) ∧ ((w.alloc (.cells z6 73)).alloc (.cells z6 73)).heap[w.heap.size + 1]? = some (.cells z6 73 (0, 0)) ∧ Below w.heap.size w ((w.alloc (.cells z6 73)).alloc (.cells z6 73)) := two_try w noTr
section
variable {w : World}
theorem row_keep2 {W : World} {B q i : Nat} {v : Value} (hq : q ≠ B) : (W.setCell ⟨B, i, none⟩ v).heap[q]? = W.heap[q]? := Below.heap_setCell W ⟨B, i, none⟩ v q (by simpa using hq)
theorem two_rows (w : World) (cs ds : Array Value) (T U : TypeId) : ((w.alloc (.cells cs T)).alloc (.cells ds U)).heap[w.heap.size]? = some (.cells cs T (0, 0)) ∧ Below w.heap.size w ((w.alloc (.cells cs T)).alloc (.cells ds U)) :=
  ⟨later_at ((Below.refl _ _).alloc (Nat.le_refl _) _) (made_at w _), ((Below.refl w.heap.size w).alloc (Nat.le_refl _) _).alloc (by simp) _⟩
theorem two_rows2 (w : World) (cs ds : Array Value) (T U : TypeId) : ((w.alloc (.cells cs T)).alloc (.cells ds U)).heap[w.heap.size + 1]? = some (.cells ds U (0, 0)) := by
  have m2 := made_at (w.alloc (.cells cs T)) (.cells ds U)
  rw [World.size_alloc] at m2
  exact m2
set_option maxHeartbeats 1000000 in
set_option maxRecDepth 100000 in
theorem llimits_is (st : Int) : Calls Tryz.prog 76 #[.int .i64 st] w fun e w' => e = .returned (tryV (limP st)) ∧ Below w.heap.size w w' := by
  by_cases h1 : st = 1
  · have e : limP st = ⟨4, 1000000, 6, 0, 0, 0⟩ := by unfold limP; rw [if_pos h1]
    rw [e]
    have n1 : (st == 1) = true := beq_iff_eq.2 h1
    clear h1
    clear e
    go_enter Tryz.func76, Tryz.ntmps76
    go_wp2_with fail
    exact bodyPost_ret (results_cell_row (fn := Tryz.f76) rfl _ _ w.heap.size 73 #[.int .i64 4, .int .i64 1000000, .int .i64 6, .int .i64 0, .int .i64 0, .int .i64 0] (0, 0) _ rfl (two_rows w _ _ _ _).1 Tryz.underlying73 rfl info_tryL) rfl ⟨rfl, (two_rows w _ _ _ _).2⟩
  by_cases h2 : st = 2
  · have e : limP st = ⟨4, 0, 6, 1000000, 1000000, 1000000⟩ := by unfold limP; rw [if_neg h1, if_pos h2]
    rw [e]
    have n1 : (st == 1) = false := beq_eq_false_iff_ne.2 h1
    have n2 : (st == 2) = true := beq_iff_eq.2 h2
    clear h1 h2
    clear e
    go_enter Tryz.func76, Tryz.ntmps76
    go_wp2_with fail
    exact bodyPost_ret (results_cell_row (fn := Tryz.f76) rfl _ _ w.heap.size 73 #[.int .i64 4, .int .i64 0, .int .i64 6, .int .i64 1000000, .int .i64 1000000, .int .i64 1000000] (0, 0) _ rfl (two_rows w _ _ _ _).1 Tryz.underlying73 rfl info_tryL) rfl ⟨rfl, (two_rows w _ _ _ _).2⟩
  · have e : limP st = ⟨4, 0, 6, 0, 0, 0⟩ := by unfold limP; rw [if_neg h1, if_neg h2]
    rw [e]
    have n1 : (st == 1) = false := beq_eq_false_iff_ne.2 h1
    have n2 : (st == 2) = false := beq_eq_false_iff_ne.2 h2
    clear h1 h2
    clear e
    go_enter Tryz.func76, Tryz.ntmps76
    go_wp2_with fail
    exact bodyPost_ret (results_cell_row (fn := Tryz.f76) rfl _ _ w.heap.size 73 #[.int .i64 4, .int .i64 0, .int .i64 6, .int .i64 0, .int .i64 0, .int .i64 0] (0, 0) _ rfl (two_rows w _ _ _ _).1 Tryz.underlying73 rfl info_tryL) rfl ⟨rfl, (two_rows w _ _ _ _).2⟩
set_option maxHeartbeats 1000000 in
set_option maxRecDepth 100000 in
theorem lnumbers_is (t : TrP) : Calls Tryz.prog 91 #[tryV t] w fun e w' => e = .returned (tryV t) ∧ Below w.heap.size w w' := by
  have HR := Lib.hid (two_rows2 w (tryA t) (tryA t) 73 140)
  have HB := Lib.hid (two_rows w (tryA t) (tryA t) 73 140).2
  go_enter Tryz.func91, Tryz.ntmps91
  go_wp2_with fail
  exact bodyPost_ret (results_cell_row (fn := Tryz.f91) rfl _ _ (w.heap.size + 1) 140 (tryA t) (0, 0) _ rfl HR.out Tryz.underlying140 rfl info_six) rfl ⟨rfl, HB.out⟩
/-- The array's number k. -/
theorem six_index {t : TrP} {k : Nat} {x : Int} (h : (tryL t)[k]? = some x) (w : World) : (Instr.index 140 (tryV t) (.int .i64 k)).run Tryz.prog w = .ok (.int .i64 x) w := by
  have hk : k < 6 := by
    have := (List.getElem?_eq_some_iff.1 h).1
    simpa [tryL] using this
  have hn : (0 : Int) ≤ (k : Int) ∧ (k : Int) < ((6 : Nat) : Int) := by omega
  have hv : [Value.int .i64 t.st, .int .i64 t.sn, .int .i64 t.ms, .int .i64 t.wk, .int .i64 t.ls, .int .i64 t.un][k]? = some (.int .i64 x) := by
    have : [Value.int .i64 t.st, .int .i64 t.sn, .int .i64 t.ms, .int .i64 t.wk, .int .i64 t.ls, .int .i64 t.un][k]? = ((tryL t)[k]?).map (Value.int .i64) := by rw [← List.getElem?_map]; rfl
    rw [this, h]
    rfl
  simp [Instr.index, run_underlying Tryz.underlying140, asIntOf, hn, hk, go_sem]
  exact (List.getElem?_eq_some_iff.1 hv).2
theorem six_cell {W : World} {g : Nat} {m : TrP} (hr : W.heap[g]? = some (.cells (tryA m) 140 (0, 0))) {k : Nat} {x : Int} (h : (tryL m)[k]? = some x) : W.cell? ⟨g, k, none⟩ = some (.int .i64 x) := by
  rw [cellH hr]
  unfold tryL at h
  match k, h with
  | 0, h => obtain rfl : m.st = x := by simpa using h
            rfl
  | 1, h => obtain rfl : m.sn = x := by simpa using h
            rfl
  | 2, h => obtain rfl : m.ms = x := by simpa using h
            rfl
  | 3, h => obtain rfl : m.wk = x := by simpa using h
            rfl
  | 4, h => obtain rfl : m.ls = x := by simpa using h
            rfl
  | 5, h => obtain rfl : m.un = x := by simpa using h
            rfl
  | k + 6, h => simp at h
/-- One after another. -/
theorem allUp_iff {t m : TrP} : allUp t m = true ↔ ∀ k x y, k < 6 → (tryL t)[k]? = some x → (tryL m)[k]? = some y → upTo1 x y = true := by
  unfold allUp tryL
  simp only [Bool.and_eq_true]
  constructor
  · rintro ⟨⟨⟨⟨⟨h0, h1⟩, h2⟩, h3⟩, h4⟩, h5⟩ k x y hk hx hy
    match k, hx, hy with
    | 0, hx, hy => simp at hx hy; rw [← hx, ← hy]; exact h0
    | 1, hx, hy => simp at hx hy; rw [← hx, ← hy]; exact h1
    | 2, hx, hy => simp at hx hy; rw [← hx, ← hy]; exact h2
    | 3, hx, hy => simp at hx hy; rw [← hx, ← hy]; exact h3
    | 4, hx, hy => simp at hx hy; rw [← hx, ← hy]; exact h4
    | 5, hx, hy => simp at hx hy; rw [← hx, ← hy]; exact h5
    | k + 6, _, _ => omega
  · intro h
    exact ⟨⟨⟨⟨⟨h 0 _ _ (by omega) rfl rfl, h 1 _ _ (by omega) rfl rfl⟩, h 2 _ _ (by omega) rfl rfl⟩, h 3 _ _ (by omega) rfl rfl⟩, h 4 _ _ (by omega) rfl rfl⟩, h 5 _ _ (by omega) rfl rfl⟩
theorem six_get (t : TrP) {k : Nat} (h : k < 6) : ∃ x, (tryL t)[k]? = some x := ⟨_, List.getElem?_eq_getElem (by simpa [tryL] using h)⟩
end
end Go.Proofs.YtfjaibaidpbppaaGreatDoor
