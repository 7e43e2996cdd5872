/-
  The program's ready (order): its closure, slices.IndexFunc and ContainsFunc of it. Conditions: eight tasks at most, each behind a million at most.
-/
import Derived.Test.YtpndjeccfdcjpaaOrdL
import Derived.Test.YtpndjeccfdcjpaaFlat
import Derived.WalkKit
import Derived.OwnWalk
namespace Go.Proofs.Ytpndjeccfdcjpaa
open Go.RowKit

section
variable {w : World} {A D : Option Addr} {c d : Nat}
set_option maxHeartbeats 400000 in
set_option maxRecDepth 100000 in
theorem waits_is {ds : List Bool} {B p : Nat} (hc : w.cell? ⟨B, 0, none⟩ = some (.slice D ds.length d)) (hD : BoolsAt w D ds) :
    Calls Try.prog 27 #[.int .i64 (p : Int), .pointer (some ⟨B, 0, none⟩)] w fun e w' => e = .returned (.bool (!ds.getD p false)) ∧ w = w' := by
  by_cases hlt : p < ds.length
  · obtain ⟨b, hb⟩ : ∃ b, ds[p]? = some b := ⟨_, List.getElem?_eq_getElem hlt⟩
    obtain ⟨ad, rfl, h0⟩ := hD.at_ hb
    have hv : ds.getD p false = b := by rw [List.getD_eq_getElem?_getD, hb]; rfl
    rw [hv]
    have n0 : (0 : Int) ≤ (p : Int) := by omega
    have n1 : ¬ (ds.length : Int) ≤ (p : Int) := by omega
    have n2 : (p : Int) < (ds.length : Int) := by omega
    clear hv hb hD hlt
    go_enter Try.func27, Try.ntmps27
    go_wp2_with fail
    go_ret
    exact ⟨rfl, rfl⟩
  · have hv : ds.getD p false = false := by rw [List.getD_eq_getElem?_getD, List.getElem?_eq_none (by omega)]; rfl
    rw [hv]
    have n1 : (ds.length : Int) ≤ (p : Int) := by omega
    clear hv hD hlt
    go_enter Try.func27, Try.ntmps27
    go_wp2_with fail
    go_ret
    exact ⟨rfl, rfl⟩
theorem one_cell_new (w : World) (x : Value) (t : TypeId) : ∀ j u, [x][j]? = some u → (w.alloc (.cells #[x] t)).cell? ((⟨w.heap.size, 0, none⟩ : Addr).add j) = some u := by
  intro j u hu
  rcases j with _ | j
  · obtain rfl : x = u := by simpa using hu
    simp [go_sem, Addr.add]
  · simp at hu
theorem anyA_take {f : Nat → Bool} {l : List Nat} {k x : Nat} (hx : l[k]? = some x) : (l.take (k + 1)).any f = ((l.take k).any f || f x) := by
  rw [List.take_add_one, hx, List.any_append]
  simp
theorem anyA_hit {f : Nat → Bool} {l : List Nat} {k x : Nat} (hx : l[k]? = some x) (hf : f x = true) : l.any f = true := List.any_eq_true.2 ⟨x, List.mem_of_getElem? hx, hf⟩
set_option maxHeartbeats 400000 in
set_option maxRecDepth 100000 in
theorem idxW_is {l : List Nat} {ds : List Bool} {B : Nat} (hA : NatsAt w A l) (hl : l.length ≤ 1000000) (hc : w.cell? ⟨B, 0, none⟩ = some (.slice D ds.length d)) (hD : BoolsAt w D ds) :
    Calls Try.prog 37 #[.slice A l.length c, .func (.func 27) #[] #[.pointer (some ⟨B, 0, none⟩)]] w fun e w' => (∃ r : Int, e = .returned (.int .i64 r) ∧ decide (0 ≤ r) = l.any (fun a => !ds.getD a false)) ∧ w = w' := by
  have HA := Lib.hid hA
  have hw := fun p : Nat => waits_is (p := p) hc hD
  obtain ⟨f, hf⟩ : ∃ f : Nat → Bool, f = fun a => !ds.getD a false := ⟨_, rfl⟩
  have hw2 : ∀ p : Nat, Calls Try.prog 27 #[.int .i64 (p : Int), .pointer (some ⟨B, 0, none⟩)] w fun e w' => e = .returned (.bool (f p)) ∧ w = w' := by rw [hf]; exact hw
  rw [← hf]
  have HW := Lib.hid hw2
  clear hA hc hD hf hw hw2
  go_enter Try.func37, Try.ntmps37
  go_wp2_with fail
  go_loopw [8] (fun i wr => ∃ k : Nat, k ≤ l.length ∧ i = .int .i64 k ∧ Hid ((l.take k).any f = false) ∧ w = wr) (fun i _ => l.length - (intOf i).toNat)
  case atStart => exact ⟨0, Nat.zero_le _, rfl, Lib.hid rfl, rfl⟩
  case round =>
    obtain ⟨k, hk, rfl, H, rfl⟩ := hrel
    by_cases hlt : k < l.length
    · obtain ⟨x, hx⟩ : ∃ x, l[k]? = some x := ⟨_, List.getElem?_eq_getElem hlt⟩
      obtain ⟨ad, rfl, h0⟩ := HA.out.at_ hx
      have HX := Lib.hid hx
      have hk0 : (0 : Int) ≤ (k : Int) := by omega
      have hkl : (k : Int) < (l.length : Int) := by omega
      obtain ⟨b, hb⟩ : ∃ b, b = f x := ⟨_, rfl⟩
      have hwx := HW.out x
      rw [← hb] at hwx
      have HWX := Lib.hid hwx
      have HB := Lib.hid hb
      clear hx hb hwx
      cases b with
      | false =>
        go_wp2_with (go_at_call 27; refine HWX.out.mono ?_; rintro e w1 ⟨rfl, rfl⟩)
        go_roundw
        case rel => exact ⟨k + 1, by omega, by go_num, Lib.hid (by rw [anyA_take HX.out, H.out, ← HB.out]; rfl), by trivial⟩
        case measure => simp [intOf]; omega
      | true =>
        go_wp2_with (go_at_call 27; refine HWX.out.mono ?_; rintro e w1 ⟨rfl, rfl⟩)
        go_ret
        exact ⟨⟨_, rfl, by rw [anyA_hit HX.out HB.out.symm]; exact decide_eq_true (by omega)⟩, rfl⟩
    · obtain rfl : k = l.length := by omega
      have hlk : ¬ (l.length : Int) < (l.length : Int) := by omega
      go_wp2_with fail
      go_ret
      exact ⟨⟨_, rfl, by have h := H.out; rw [List.take_length] at h; rw [h]; rfl⟩, rfl⟩
set_option maxHeartbeats 400000 in
set_option maxRecDepth 100000 in
theorem anyW_is {l : List Nat} {ds : List Bool} {B : Nat} (hA : NatsAt w A l) (hl : l.length ≤ 1000000) (hc : w.cell? ⟨B, 0, none⟩ = some (.slice D ds.length d)) (hD : BoolsAt w D ds) :
    Calls Try.prog 28 #[.slice A l.length c, .func (.func 27) #[] #[.pointer (some ⟨B, 0, none⟩)]] w fun e w' => e = .returned (.bool (l.any (fun a => !ds.getD a false))) ∧ w = w' := by
  have HI := Lib.hid (idxW_is (c := c) hA hl hc hD)
  clear hA hc hD
  obtain ⟨b, hb⟩ : ∃ b, b = l.any (fun a => !ds.getD a false) := ⟨_, rfl⟩
  rw [← hb] at HI ⊢
  clear hb
  go_enter Try.func28, Try.ntmps28
  go_wp2_with (go_at_call 37; refine HI.out.mono ?_; rintro e w1 ⟨⟨r, rfl, hr⟩, rfl⟩)
  go_ret
  exact ⟨by rw [← hr]; rfl, rfl⟩
end

/-- The first k tasks' ready ones. -/
def readyK (ts : List TkP) (ds : List Bool) (k : Nat) : List Nat := (List.range k).filter fun i => !ds.getD i false && ((ts.getD i ⟨⟨#[]⟩, [], 0, 0, 0, 0, 0⟩).after.all fun a => ds.getD a false)
theorem readyK_all (n : ByteArray) (ts : List TkP) (ds : List Bool) : readyK ts ds ts.length = readyP ⟨n, ts⟩ ds := rfl
theorem readyK_len (ts : List TkP) (ds : List Bool) (k : Nat) : (readyK ts ds k).length ≤ k := Nat.le_trans (List.length_filter_le _ _) (by simp)
theorem readyK_next {ts : List TkP} {ds : List Bool} {k : Nat} {t : TkP} (ht : ts[k]? = some t) : readyK ts ds (k + 1) = readyK ts ds k ++ (if (!ds.getD k false && !(t.after.any fun a => !ds.getD a false)) = true then [k] else []) := by
  unfold readyK
  rw [List.range_succ, List.filter_append]
  congr 1
  have h1 : ts.getD k ⟨⟨#[]⟩, [], 0, 0, 0, 0, 0⟩ = t := by rw [List.getD_eq_getElem?_getD, ht]; rfl
  have h2 : (t.after.all fun a => ds.getD a false) = !(t.after.any fun a => !ds.getD a false) := by rw [List.not_any_eq_all_not]; simp
  rw [List.filter_cons, h1, h2]
  rfl
abbrev natV (l : List Nat) : List Value := l.map fun n => Value.int .i64 (n : Nat)
set_option maxHeartbeats 2000000 in
set_option maxRecDepth 100000 in
theorem readyT_is {w : World} {A D : Option Addr} {c d : Nat} {ts : List TkP} {ds : List Bool} (hA : TksAt w A ts) (hD : BoolsAt w D ds) (hn : ts.length ≤ 8) (ha : ∀ t ∈ ts, t.after.length ≤ 1000000) :
    Calls Try.prog 19 #[.slice A ts.length c, .slice D ds.length d] w fun e w' => (∃ B b, e = .returned (.slice B (readyK ts ds ts.length).length b) ∧ NatsAt w' B (readyK ts ds ts.length) ∧ ∀ ad, B = some ad → w.heap.size ≤ ad.block) ∧ Below w.heap.size w w' := by
  have b0 := (Below.refl w.heap.size w).alloc (Nat.le_refl _) (.cells #[.slice D ds.length d] 25)
  have HX := Lib.hid (made_at w (.cells #[.slice D ds.length d] 25))
  have HA := Lib.hid (hA.later b0)
  have HD := Lib.hid (hD.later b0)
  have HAL := Lib.hid ha
  have HB0 := Lib.hid b0
  clear b0 hA hD ha
  obtain ⟨i0, hi, hz0, hz1, hz2⟩ := info_all info_int
  go_enter Try.func19, Try.ntmps19
  go_upto_region 1 with fail
  generalize hW0 : (w.alloc (.cells #[.slice D ds.length d] 25)) = W0 at *
  clear hW0
  go_wp2_with fail
  go_loopw [6, 12] (fun v i wr => ∃ k : Nat, i = .int .i64 k ∧ k ≤ ts.length ∧ Hid (wr.ownsRow W0.heap.size 3 1 v (readyK ts ds k).length (natV (readyK ts ds k))) ∧ Hid (Below W0.heap.size W0 wr)) (fun _ i _ => ts.length - (intOf i).toNat)
  case atStart => exact ⟨0, rfl, Nat.zero_le _, Lib.hid (World.ownsRow_nil _ _ _ _), Lib.hid (Below.refl _ _)⟩
  case round =>
    obtain ⟨k, rfl, hk, HO, HB⟩ := hrel
    by_cases hlt : k < ts.length
    · obtain ⟨t, ht⟩ : ∃ t, ts[k]? = some t := ⟨_, List.getElem?_eq_getElem hlt⟩
      obtain ⟨pa, B1, c1, rfl, p0, pj, hna, hca⟩ := (HA.out.later HB.out).at_ ht
      have p1 := pj 1 _ rfl
      have p2 := pj 2 _ rfl
      have p3 := pj 3 _ rfl
      have p4 := pj 4 _ rfl
      have p5 := pj 5 _ rfl
      have p6 := pj 6 _ rfl
      have HNX := Lib.hid (readyK_next (ds := ds) ht)
      have HLN := Lib.hid (readyK_len ts ds k)
      have hta := HAL.out t (List.mem_of_getElem? ht)
      clear pj ht
      have hk0 : (0 : Int) ≤ (k : Int) := by omega
      have hkl : (k : Int) < (ts.length : Int) := by omega
      go_upto_region 6 with fail
      have hbc := (Below.refl wr.heap.size wr).alloc (Nat.le_refl _) (.cells (tkA t B1 c1) 34)
      have HXC := Lib.hid (made_at wr (.cells (tkA t B1 c1) 34))
      have HBC := Lib.hid (below_step HB.out hbc)
      have HOC := Lib.hid (HO.out.alloc (.cells (tkA t B1 c1) 34))
      have HNA := Lib.hid (hna.later hbc)
      clear hbc p0 p1 p2 p3 p4 p5 p6 hna HO HB
      generalize hWC : (wr.alloc (.cells (tkA t B1 c1) 34)) = W1 at *
      clear hWC
      have p1 := cellH HXC.out 1
      simp at p1
      have hbx : W1.cell? ⟨w.heap.size, 0, none⟩ = some (.slice D ds.length d) := cell_later HBC.out (by have := cellH HX.out 0; simpa using this)
      have HWK := Lib.hid (waits_is (p := k) hbx (HD.out.later HBC.out))
      have HAW := Lib.hid (anyW_is (c := c1) HNA.out hta hbx (HD.out.later HBC.out))
      obtain ⟨f, hf⟩ : ∃ f, f = ds.getD k false := ⟨_, rfl⟩
      obtain ⟨g, hg⟩ : ∃ g, g = t.after.any (fun a => !ds.getD a false) := ⟨_, rfl⟩
      rw [← hf] at HWK HNX
      rw [← hg] at HAW HNX
      clear hf hg hbx
      cases f with
      | true =>
        go_wp2_with (go_at_call 27; refine HWK.out.mono ?_; rintro e w1 ⟨rfl, rfl⟩)
        go_roundw
        case rel => exact ⟨k + 1, by go_num, by omega, Lib.hid (by rw [HNX.out]; simpa using HOC.out), HBC⟩
        case measure => simp [intOf]; omega
      | false =>
        cases g with
        | true =>
          go_wp2_with (first
            | (go_at_call 27; refine HWK.out.mono ?_; rintro e w1 ⟨rfl, rfl⟩)
            | (go_at_call 28; refine HAW.out.mono ?_; rintro e w1 ⟨rfl, rfl⟩))
          go_roundw
          case rel => exact ⟨k + 1, by go_num, by omega, Lib.hid (by rw [HNX.out]; simpa using HOC.out), HBC⟩
          case measure => simp [intOf]; omega
        | false =>
          have hsz := HBC.out.size
          have hlen := HLN.out
          go_wp2_with (first
            | (go_at_call 27; refine HWK.out.mono ?_; rintro e w1 ⟨rfl, rfl⟩)
            | (go_at_call 28; refine HAW.out.mono ?_; rintro e w1 ⟨rfl, rfl⟩)
            | (at_builtin; refine wpList_append_own _ rfl _ _ 29 rfl W0.heap.size 3 i0 _ 1 8 Try.underlying29 hi hz0 hz1 hz2 rfl (by omega) _ (readyK ts ds k).length (natV (readyK ts ds k)) rfl (HOC.out.alloc _) ⟨W1.heap.size, 0, none⟩ 1 1 [.int .i64 (k : Int)] rfl rfl (one_cell_new W1 _ _) (by simp [Value.oneCell']) (by unfold maxLen; omega) (by omega) (by simp; omega) ?_; intro v2 w2 hown2 hg2 _))
          have hB2 := (HBC.out.alloc hsz (.cells #[.int .i64 (k : Int)] 3)).grown hg2 (by simp; omega) (fun q hq => (HOC.out.lt q hq).1)
          go_roundw
          case rel => exact ⟨k + 1, by go_num, by omega, Lib.hid (by rw [HNX.out]; simpa [natV] using hown2), Lib.hid hB2⟩
          case measure => simp [intOf]; omega
    · obtain rfl : k = ts.length := by omega
      have hlk : ¬ (ts.length : Int) < (ts.length : Int) := by omega
      obtain ⟨A', c', rfl, hN, _⟩ := nats_own HO.out
      have HN := Lib.hid hN.nats
      have HNB := Lib.hid (show ∀ ad, A' = some ad → w.heap.size ≤ ad.block from fun ad e => by
        subst e
        exact Nat.le_trans HB0.out.size (own_tag HO.out rfl).1)
      clear hN
      go_wp2_with fail
      go_ret
      exact ⟨⟨_, ⟨_, rfl⟩, HN.out, HNB.out⟩, below_step HB0.out HB.out⟩
end Go.Proofs.Ytpndjeccfdcjpaa
