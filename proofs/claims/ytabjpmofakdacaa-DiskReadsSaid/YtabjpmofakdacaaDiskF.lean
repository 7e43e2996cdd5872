/-
  What the document's New (package lockageref03) makes: a disk of so many sectors of noughts. No conditions but the number.
-/
import Derived.Test.YtabjpmofakdacaaDiskE
import Derived.Deep.RegionLaw
namespace Go.Proofs.Ytabjpmofakdacaa
open Go.RowKit

/-- append onto a row of the call's own, as one step of a region that draws. -/
theorem step_append_own {P : Program} (w : World) {ops : Array Oper} {o : Oper} {a : Act} {K : Act → World → Prop} {Q : Exit → Act → World → Prop} {E : Prop} (hgd : o.guard = none) (s x : Operand) (t : TypeId)
    (ho : o.op = .call { callee := .builtin .append, args := #[s, x], argTypes := #[t, t] })
    (base : Nat) (e : TypeId) (i : TypeInfo) (z : Value) (size bytes : Nat) (ht : P.underlying t = some (.slice e)) (hi : P.info? e = some i) (hz : i.zero = some z)
    (hsize : i.size = size) (hby : i.bytes = bytes) (hzs : z.cells.size = size) (hsz : 0 < size)
    (v : Value) (n : Nat) (xs : List Value) (hs : a.eval s = v) (hown : w.ownsRow base e size v n xs)
    (ad : Addr) (m c : Nat) (news : List Value) (hx : a.eval x = .slice (some ad) m c) (hl : news.length = m * size) (hnews : ∀ j u, news[j]? = some u → w.cell? (ad.add j) = some u) (h1 : ∀ u ∈ news, u.oneCell' = true)
    (h63 : n + m ≤ maxLen) (hbytes : (n + m) * bytes ≤ 140737488355328) (hbase : base ≤ w.heap.size)
    (h : ∀ v' w', w'.ownsRow base e size v' (n + m) (xs ++ news) → w.grownBy w' v.ownBlock → (v' = .slice none 0 0 ↔ v = .slice none 0 0 ∧ m = 0) → K (a.put o.dst v') w') :
    if Region.wanted o (yielded ops a.tmps) = true then Oper.wp P o a w K Q else E := by
  have hw : Region.wanted o (yielded ops a.tmps) = true := by simp [Region.wanted, hgd]
  rw [if_pos hw]
  exact wp_append_own w s x t ho base e i z size bytes ht hi hz hsize hby hzs hsz v n xs hs hown ad m c news hx hl hnews h1 h63 hbytes hbase h

theorem info_str : (Try.prog.info? 9).map (fun i => (i.zero, i.size, i.bytes)) = some (some (.string ⟨#[]⟩), 1, 16) := by kernel_rfl
theorem one_cell_new (w : World) (x : Value) (t : TypeId) : ∀ j u, [x][j]? = some u → (w.alloc (.cells #[x] t)).cell? ((⟨w.heap.size, 0, none⟩ : Addr).add j) = some u := by
  intro j u hu
  rcases j with _ | j
  · obtain rfl : x = u := by simpa using hu
    simp [go_sem, Addr.add]
  · simp at hu

section
variable {base R : Nat} {w : World}
theorem RefB.appK {cs : Array Value} {kv cv v1 : Value} {kept : List ByteArray} {cache : List (Int × ByteArray)} {o : Obj} {w1 : World} {s : ByteArray} (h : RefB w base R cs kv cv kept cache) (hg : (w.alloc o).grownBy w1 kv.ownBlock)
    (hown : w1.ownsRow base 9 1 v1 (kept.length + 1) (kept.map Value.string ++ [.string s])) : RefB w1 base R cs v1 cv (kept ++ [s]) cache ∧ OnlyT base refT w w1 := by
  have ha := h.later ((Below.refl _ _).alloc (Nat.le_refl _) o)
  refine ⟨⟨?_, by simpa using hown, ha.2.2.kept hg (own_ne_own ha.2.2 ha.2.1 (by decide))⟩, (OnlyT.refl.alloc o).grown hg fun g e => ?_⟩
  · rw [hg.block R (Array.getElem?_eq_some_iff.1 ha.1).1 (own_ne_blk ha.2.1 ha.1 (by decide))]
    exact ha.1
  · obtain ⟨h1, cs, t, m, h2, rfl⟩ := own_row ha.2.1 g e
    exact ⟨h1, cs, _, m, h2, by decide⟩

theorem RefB.drew {cs : Array Value} {kv cv : Value} {kept : List ByteArray} {cache : List (Int × ByteArray)} (h : RefB w base R cs kv cv kept cache) : RefB w.drew base R cs kv cv kept cache := h
theorem noughts_64 (w : World) : Calls Try.prog 31 #[.int .i64 64] w fun e w' => e = .returned (.string (zeroB 64)) ∧ Below w.heap.size w w' := noughts_is 64 (Nat.le_refl _) w

/-- A new disk of n sectors. -/
def newS (n : Nat) : Dk := ⟨List.replicate n (zeroB 64), [], false, 0, 0, 0⟩
theorem newS_ok {n : Nat} (hn : n ≤ 4096) : (newS n).Ok where
  size := fun s hs => by obtain ⟨_, rfl⟩ := List.mem_replicate.1 hs; exact zeroB_size 64
  few := by simpa [newS] using hn
  at_ := fun x hx => absurd hx List.not_mem_nil
  armed0 := Int.le_refl _
  armed1 := by simp [newS]
  bits0 := Int.le_refl _
  bits1 := by simp [newS]
  writes0 := Int.le_refl _

set_option maxHeartbeats 1000000 in
theorem refnewd_is (n : Nat) (hn : n ≤ 4096) (w : World) :
    Calls Try.prog 11 #[.int .i64 n] w fun e w' => ∃ R, e = .returned (.pointer (some ⟨R, 0, none⟩)) ∧ RefAt w' w.heap.size R (newS n) ∧ Below w.heap.size w w' := by
  obtain ⟨i0, hi, hz0, hz1, hz2⟩ := info_parts info_str
  go_enter Try.func11, Try.ntmps11
  go_wp2
  go_loopw [4] (fun j wr => ∃ (k : Nat) (kv : Value), k ≤ n ∧ j = .int .i64 k ∧ RefB wr w.heap.size w.heap.size #[kv, .slice none 0 0, .bool false, .int .i64 0, .int .u64 0, .int .i64 0] kv (.slice none 0 0) (List.replicate k (zeroB 64)) [] ∧ OnlyT w.heap.size refT w wr) (fun j _ => n - (intOf j).toNat)
  case atStart =>
    refine ⟨0, .slice none 0 0, Nat.zero_le _, rfl, ⟨?_, World.ownsRow_nil _ _ _ _, World.ownsRow_nil _ _ _ _⟩, OnlyT.refl.alloc _⟩
    exact heap_alloc_new w _
  case round =>
    obtain ⟨k, kv, hk, rfl, hB, hO⟩ := hrel
    have HB := Lib.hid hB
    have HON := Lib.hid hO
    by_cases hlt : k < n
    · have hsz : w.heap.size ≤ wr.heap.size := hO.size
      obtain ⟨A, c, B, d, ek, _⟩ := hB.lens
      rw [List.length_replicate] at ek
      subst ek
      have c0 := hB.cell 0
      have f0 := hB.free 0
      simp at c0
      clear hB hO
      go_wp2_with fail
      go_region_law (first
        | (refine step_append_own _ rfl (.tmp 16) (.tmp 18) 46 rfl w.heap.size 9 i0 _ 1 16 Try.underlying46 hi hz0 hz1 hz2 rfl (by omega) (.slice A k c) k ((List.replicate k (zeroB 64)).map Value.string) (by simp [Act.eval]) (HR1.out.alloc _) ⟨w1.heap.size, 0, none⟩ 1 1 [.string (zeroB 64)] (by simp [Act.eval]) rfl (one_cell_new w1 _ _) (by simp [Value.oneCell']) (by unfold maxLen; omega) (by omega) (by have := HB1.out.2.1; have h9 := hb1.size; simp at h9 ⊢; omega) ?_; intro v2 w2 hown2 hg2 _; have HA := Lib.hid (RefB.appK (s := zeroB 64) HB1.out hg2 (by rw [List.length_replicate]; exact hown2)); obtain ⟨A2, c2, B2, d2, e2, _⟩ := HA.out.1.lens; rw [List.length_append, List.length_replicate] at e2; subst e2; clear hown2 hg2; have q0 := HA.out.1.cell 0; have q1 := HA.out.1.free 0; have HB1S := Lib.hid hb1; clear hb1; simp at q0)
        | (go_simp; go_at_call 31; refine (noughts_64 _).mono ?_; rintro e w1 ⟨rfl, hb1⟩; have HB1 := Lib.hid (HB.out.drew.later hb1); have e0 := HB1.out.cell 0; have e1 := HB1.out.free 0; have HR1 := Lib.hid (show w1.ownsRow w.heap.size 9 1 (.slice A k c) k ((List.replicate k (zeroB 64)).map Value.string) by have := HB1.out.2.1; rw [List.length_replicate] at this; exact this); simp at e0; have e0a : (w1.alloc (.cells #[.string (zeroB 64)] 9)).cell? ⟨w.heap.size, 0, none⟩ = some (.slice A k c) := cell_alloc e0))
      all_goals go_wp2_with fail
      all_goals
        have h1 := HA.out.1.set 0 (.slice A2 (k + 1) c2)
        have hO2 := ((HON.out.trans (OnlyT.of_below ((Below.refl _ _).drew.trans HB1S.out))).trans HA.out.2).setCell (i := 0) (v := .slice A2 (k + 1) c2) HA.out.1.1 refT_disk (Nat.le_refl _)
        go_roundw
        case rel =>
          refine ⟨k + 1, .slice A2 (k + 1) c2, by omega, by go_num, ?_, hO2⟩
          have := h1
          rw [← List.replicate_succ'] at this
          simpa using this
        case measure => simp [intOf]; omega
    · obtain rfl : k = n := by omega
      go_wp2_with fail
      go_ret
      exact ⟨w.heap.size, rfl, ⟨kv, .slice none 0 0, HB.out.1, Nat.le_refl _, HB.out.2.1, HB.out.2.2, newS_ok hn⟩, HON.out.below (Nat.le_refl _)⟩

end
end Go.Proofs.Ytabjpmofakdacaa
