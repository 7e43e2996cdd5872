/-
  The law SectorLays, walked for every input. No conditions but how the arguments lie in memory.
-/
import Derived.Test.YtblmempidngcgaaSecN
import Derived.OwnWalk
import Derived.Laws.OwnMore
import Derived.Laws.AppendOwnNone
namespace Go.Proofs.Ytblmempidngcgaa
open Go.RowKit

section
variable {P : Program} (w : World)
/-- append of a list that may be nil onto a row of the call's own. -/
theorem wpList_append_opt {ops : Array Oper} {rest : List Oper} {o : Oper} {a : Act} {Q : Exit → Act → World → Prop} (hgd : o.guard = none) (s x : Operand) (t : TypeId)
    (ho : o.op = .call { callee := .builtin .append, args := #[s, x], argTypes := #[t, t] })
    (base : Nat) (e : TypeId) (i : TypeInfo) (z : Value) (size bytes : Nat) (ht : P.underlying t = some (.slice e)) (hi : P.info? e = some i) (hz : i.zero = some z)
    (hsize : i.size = size) (hby : i.bytes = bytes) (hzs : z.cells.size = size) (hsz : 0 < size)
    (v : Value) (n : Nat) (xs : List Value) (hs : a.eval s = v) (hown : w.ownsRow base e size v n xs)
    (A : Option Addr) (m c : Nat) (news : List Value) (hx : a.eval x = .slice A m c) (hA : A = none → m = 0 ∧ c = 0) (hl : news.length = m * size) (hnews : ∀ ad, A = some ad → ∀ j u, news[j]? = some u → w.cell? (ad.add j) = some u)
    (h1 : ∀ u ∈ news, u.oneCell' = true) (h63 : n + m ≤ maxLen) (hbytes : (n + m) * bytes ≤ 140737488355328) (hbase : base ≤ w.heap.size)
    (h : ∀ v' w', w'.ownsRow base e size v' (n + m) (xs ++ news) → w.grownBy w' v.ownBlock → wpList P ops Q rest (a.put o.dst v') w') : wpList P ops Q (o :: rest) a w := by
  rcases A with _ | ad
  · obtain ⟨rfl, rfl⟩ := hA rfl
    obtain rfl : news = [] := List.eq_nil_of_length_eq_zero (by simpa using hl)
    exact wpList_append_own_none hgd s x t ho base e i size ht hi v n xs hs hown hx (h v w (by simpa using hown) (World.grownBy.refl w _))
  · exact wpList_append_own w hgd s x t ho base e i z size bytes ht hi hz hsize hby hzs hsz v n xs hs hown ad m c news hx hl (hnews ad rfl) h1 h63 hbytes hbase (fun v' w' h2 h3 _ => h v' w' h2 h3)
end

theorem textsAt_later {w w' : World} {A : Option Addr} {L : List ByteArray} (h : TextsAt w A L) (hb : Below w.heap.size w w') : TextsAt w' A L := fun h0 => by
  obtain ⟨ad, e, hc⟩ := h h0
  exact ⟨ad, e, fun i t ht => cell_later hb (hc i t ht)⟩

theorem lnext (f : FuncId) (hcf : ∀ (args : Array Value) (w : World), (callFunc f args).run Try.prog w = .ok (.enter f args) w)
    (CL : ∀ (b g N cap : Nat) (L : List ByteArray) (_ : L.length = N) (i : Int) (_ : 0 ≤ i) (_ : i < N) (W : World) (_ : W.cell? ⟨b, 0, none⟩ = some (.slice (some ⟨g, 0, none⟩) N cap)) (_ : ∀ i t, L[i]? = some t → W.cell? ⟨g, i, none⟩ = some (.string t)),
      Calls Try.prog f #[.int .i64 i, .pointer (some ⟨b, 0, none⟩)] W fun e W' => e = .returned (.string (rdL L i)) ∧ W = W')
    (L : List ByteArray) (M b g cap : Nat) (hM : L.length = M) (a end_ gen no : Int) (h0 : 0 ≤ a) (he : end_ ≤ M) (hM2 : M ≤ 1000000) (W : World) (hb : W.heap[b]? = some (.cells #[.slice (some ⟨g, 0, none⟩) M cap] 41 (0, 0))) (hg : ∀ i t, L[i]? = some t → W.cell? ⟨g, i, none⟩ = some (.string t)) :
    Calls Try.prog 20 #[.func (.func f) #[] #[.pointer (some ⟨b, 0, none⟩)], .int .i64 a, .int .i64 end_, .int .i64 gen, .int .i64 no] W fun e w' => e = .returned (nextV a (nextP (rdL L) a end_ gen no)) ∧ Below W.heap.size W w' :=
  next_is f (.pointer (some ⟨b, 0, none⟩)) (rdL L) a end_ gen no (by omega) (by omega) W hcf (fun V hV i hi hie => (CL b g M cap L hM i (by omega) (by omega) V (by rw [cellH (later_at hV hb)]; rfl) (fun j t ht => cell_later hV (hg j t ht))).mono (fun e W' ⟨h, hw⟩ => ⟨h, by rw [← hw]; exact Below.refl _ _⟩))

set_option maxHeartbeats 4000000 in
set_option maxRecDepth 100000 in
theorem lays_true (s : ByteArray) (hs : s.size ≤ maxLen) (stamp gen no at0 : Int) (h0 : 0 ≤ stamp ∧ stamp < 18446744073709551616) (hg : -9223372036854775808 ≤ gen ∧ gen ≤ 9223372036854775807) (hn : -9223372036854775808 ≤ no ∧ no ≤ 9223372036854775807)
    (A : Option Addr) (c : Nat) (more : List ByteArray) (w : World) (hA : TextsAt w A more) (hA0 : A = none → more.length = 0 ∧ c = 0) :
    Calls Try.prog 5 #[.string s, .int .u64 stamp, .int .i64 gen, .int .i64 no, .int .i64 at0, .slice A more.length c] w fun e w' => e = .returned (.bool true) ∧ Below w.heap.size w w' := by
  obtain ⟨a, hm, ha⟩ := at_count at0
  have AW := Lib.hid awake_true
  have HM := Lib.hid hm
  have HA := Lib.hid hA
  have HA0 := Lib.hid hA0
  have hsl : s.size ≤ 9223372036854775807 := by unfold maxLen at hs; omega
  have LY := Lib.hid (fun w : World => lay_is s hsl stamp gen no h0.1 h0.2 w)
  have H0 := Lib.hid h0
  have HG := Lib.hid hg
  have HNN := Lib.hid hn
  clear hm hA hA0 h0 hg hn hs
  by_cases hs2 : 2000 < s.size
  · have hsb : (2000 : Int) < s.size := by omega
    go_enter Try.func5, Try.ntmps5
    go_wp2_with fail
    refine (AW.out _).mono ?_
    rintro e w1 ⟨rfl, hb1⟩
    go_wp2_with fail
    refine (AW.out _).mono ?_
    rintro e w2 ⟨rfl, hb2⟩
    have HB2 := Lib.hid (below_step hb1 hb2)
    clear hb1 hb2
    go_wp2_with fail
    refine bodyPost_ret (v := .bool true) (by simp [results, Try.results5, go_sem]) rfl ⟨rfl, HB2.out⟩
  by_cases hm2 : 50 < more.length
  · have hsb : ¬ (2000 : Int) < s.size := by omega
    have hmb : (50 : Int) < more.length := by omega
    go_enter Try.func5, Try.ntmps5
    go_wp2_with fail
    refine (AW.out _).mono ?_
    rintro e w1 ⟨rfl, hb1⟩
    go_wp2_with fail
    refine (AW.out _).mono ?_
    rintro e w2 ⟨rfl, hb2⟩
    have HB2 := Lib.hid (below_step hb1 hb2)
    clear hb1 hb2
    go_wp2_with fail
    refine bodyPost_ret (v := .bool true) (by simp [results, Try.results5, go_sem]) rfl ⟨rfl, HB2.out⟩
  have hs3 : s.size ≤ 2000 := by omega
  have hm3 : more.length ≤ 50 := by omega
  have hsb : ¬ (2000 : Int) < s.size := by omega
  have hmb : ¬ (50 : Int) < more.length := by omega
  have RL := Lib.hid (fun w : World => reflay_is s hs3 stamp gen no H0.out.1 H0.out.2 w)
  have CO := Lib.hid (fun w : World => count_is s.size (by omega) (by omega) w)
  have RC := Lib.hid (fun w : World => refcount_is s.size (by omega) (by omega) w)
  have hn55 : cntN s.size ≤ 55 := by unfold cntN; split <;> omega
  have hn1 := cnt_pos s.size
  clear hs2 hm2
  go_enter Try.func5, Try.ntmps5
  go_wp2_with fail
  refine (AW.out _).mono ?_
  rintro e w1 ⟨rfl, hb1⟩
  have HB1 := Lib.hid hb1
  clear hb1
  rw [HM.out]
  go_wp2_with fail
  refine (LY.out _).mono ?_
  rintro e w2 ⟨hb2, hd2⟩
  have HB2 := Lib.hid (below_step HB1.out hb2)
  clear HB1 hb2
  rcases hd2 with ⟨hno, rfl⟩ | ⟨hok, gl, hgl, rfl, hrow⟩
  · have HNO := Lib.hid hno
    go_wp2_with fail
    refine (RL.out _).mono ?_
    rintro e w3 ⟨hb3, hd3⟩
    have HB3 := Lib.hid (below_step HB2.out hb3)
    rcases hd3 with ⟨_, rfl⟩ | ⟨hok, _⟩
    rotate_left
    · rw [hno] at hok; cases hok
    clear hno hb3 HB2
    have SM := Lib.hid (show ∀ w : World, Calls Try.prog 17 #[.slice none 0 0, .slice none 0 0] w fun e w' => e = .returned (.bool true) ∧ Below w.heap.size w w' from fun w => same_is (A := none) (B := none) (c1 := 0) (c2 := 0) (L := []) (K := []) (w := w) (fun h => absurd h (by simp)) (fun h => absurd h (by simp)) (by simp))
    go_wp2_with fail
    refine (SM.out _).mono ?_
    rintro e w4 ⟨rfl, hb4⟩
    have HB4 := Lib.hid (below_step HB3.out hb4)
    clear hb4 HB3
    go_wp2_with fail
    refine (CO.out _).mono ?_
    rintro e W5 ⟨rfl, hw5⟩
    subst hw5
    go_wp2_with fail
    refine (RC.out _).mono ?_
    rintro e W5 ⟨rfl, hw5⟩
    subst hw5
    go_wp2_with fail
    refine bodyPost_ret (v := .bool true) (by simp [results, Try.results5, go_sem]) rfl ⟨rfl, HB4.out⟩
  have HOK := Lib.hid hok
  go_wp2_with fail
  refine (RL.out _).mono ?_
  rintro e w3 ⟨hb3, hd3⟩
  have HB3 := Lib.hid (below_step HB2.out hb3)
  have HRW := Lib.hid (later_at hb3 hrow)
  rcases hd3 with ⟨hno, _⟩ | ⟨_, v3, rfl, hown3⟩
  · rw [hok] at hno; cases hno
  obtain ⟨g3, cap3, rfl, _, hc3⟩ := own_texts hown3 (by omega)
  obtain ⟨N, hN⟩ : ∃ N, N = cntN s.size := ⟨_, rfl⟩
  have HN := Lib.hid hN
  have hll : (layL s stamp gen no).length = N := by rw [layL_len, hN]
  have htl : TextsAt w3 (some ⟨gl, 0, none⟩) (layL s stamp gen no) := fun _ => ⟨_, rfl, fun i t ht => by rw [Addr.add_lit, Nat.zero_add, cellH HRW.out, List.getElem?_toArray, List.getElem?_map, ht]; rfl⟩
  have ht3 : TextsAt w3 (some ⟨g3, 0, none⟩) (layL s stamp gen no) := fun _ => ⟨_, rfl, fun i t ht => by rw [Addr.add_lit, Nat.zero_add]; exact hc3 i t ht⟩
  have SM := Lib.hid (same_is (c1 := N) (c2 := cap3) htl ht3 (by rw [hll]; omega))
  rw [hll, decide_eq_true rfl] at SM
  rw [← hN] at hn55 hn1 ⊢
  have HLL := Lib.hid hll
  have hlayn := lays_next (a := a) (more := more) hok H0.out.1 H0.out.2
  have hlays := lays_short (a := a) (more := more) hok H0.out.1 H0.out.2
  have hno1 : 0 ≤ no ∧ no < 65536 := by
    simp only [layOk, Bool.and_eq_true, decide_eq_true_eq] at hok
    omega
  have hlayo := fun end_ => lays_other (a := a) (more := more) (no' := no + 1) hok H0.out.1 H0.out.2 (by omega) end_
  rw [← hN] at hlayn hlays
  have HLN := Lib.hid hlayn
  have HLS := Lib.hid hlays
  have HLO := Lib.hid hlayo
  have HNO := Lib.hid hno1
  obtain ⟨nn0, nn1⟩ := hno1
  clear hb3 hrow hok hown3 hc3 htl ht3 hN hll hlayn hlays hlayo HB2 RL LY
  go_wp2_with fail
  refine SM.out.mono ?_
  rintro e w4 ⟨rfl, hb4⟩
  have HB4 := Lib.hid (below_step HB3.out hb4)
  have HRW4 := Lib.hid (later_at hb4 HRW.out)
  clear hb4 HB3 HRW SM
  go_wp2_with fail
  refine (CO.out _).mono ?_
  rintro e W5 ⟨rfl, hw5⟩
  subst hw5
  go_wp2_with fail
  refine (RC.out _).mono ?_
  rintro e W5 ⟨rfl, hw5⟩
  subst hw5
  obtain ⟨i0, hi0, hz0, hz1, hz2⟩ := info_parts info_str3
  have hmk := run_make (P := Try.prog) w4 41 9 i0 (.string ⟨#[]⟩) Try.underlying41 hi0 hz0 .i64 .i64 a a (by omega) (by omega) (by rw [hz2]; omega) (by omega)
  simp [hz1, Value.cells] at hmk
  have HO5 := Lib.hid (own_fresh w4 a (by omega) (base := w.heap.size) HB4.out.size)
  have HB5 := Lib.hid (HB4.out.alloc HB4.out.size (.cells (madeCells #[.string ⟨#[]⟩] a) 9))
  have HRW5 := Lib.hid (later_at ((Below.refl _ _).alloc (Nat.le_refl _) (.cells (madeCells #[.string ⟨#[]⟩] a) 9)) HRW4.out)
  have HC5 := Lib.hid (texts_cells (W := w4.alloc (.cells (madeCells #[.string ⟨#[]⟩] a) 9)) (ad := ⟨gl, 0, none⟩) (L := layL s stamp gen no) (fun i t ht => by rw [Addr.add_lit, Nat.zero_add, cellH HRW5.out, List.getElem?_toArray, List.getElem?_map, ht]; rfl))
  have HTL := Lib.hid (show (textsV (layL s stamp gen no)).length = N * 1 by rw [textsV, List.length_map, HLL.out, Nat.mul_one])
  have HTM := Lib.hid (show (textsV more).length = more.length * 1 by rw [textsV, List.length_map, Nat.mul_one])
  go_wp2_with (first
    | (at_builtin; refine wpList_append_own _ rfl (.tmp 90) (.tmp 91) 41 rfl w.heap.size 9 i0 _ 1 16 Try.underlying41 hi0 hz0 hz1 hz2 rfl (by omega) (.slice (some ⟨w4.heap.size, 0, none⟩) a a) a (textsV (List.replicate a ⟨#[]⟩)) rfl HO5.out ⟨gl, 0, none⟩ N N (textsV (layL s stamp gen no)) rfl HTL.out HC5.out (textsV_one _) (by unfold maxLen; omega) (by omega) HB5.out.size ?_; intro v6 w6 hown6 hg6 _; have HO6 := Lib.hid hown6; have HB6 := Lib.hid (HB5.out.grown hg6 HB5.out.size (fun b e => (HO5.out.lt b e).1)); have HM6 := Lib.hid (textsAt_later HA.out HB6.out); clear hown6 hg6)
    | (at_builtin; refine wpList_append_opt _ rfl (.tmp 92) (.tmp 93) 41 rfl w.heap.size 9 i0 _ 1 16 Try.underlying41 hi0 hz0 hz1 hz2 rfl (by omega) v6 (a + N) (textsV (List.replicate a ⟨#[]⟩) ++ textsV (layL s stamp gen no)) rfl HO6.out A more.length c (textsV more) rfl HA0.out HTM.out (fun ad e => by subst e; intro j u hu; have hj := (List.getElem?_eq_some_iff.1 hu).1; obtain ⟨ad2, e2, hc2⟩ := HM6.out (by rw [HTM.out] at hj; omega); obtain rfl := Option.some.inj e2; exact texts_cells hc2 j u hu) (textsV_one _) (by unfold maxLen; omega) (by omega) HB6.out.size ?_; intro v7 w7 hown7 hg7; have HB7 := Lib.hid (HB6.out.grown hg7 HB6.out.size (fun b e => (HO6.out.lt b e).1)); have hown7b : w7.ownsRow w.heap.size 9 1 v7 (a + N + more.length) (textsV (allL a s stamp gen no more)) := by rw [allL, textsV, List.map_append, List.map_append]; exact hown7
       obtain ⟨gA, capA, rfl, _, hcA⟩ := own_texts hown7b (by omega)
       have HCA := Lib.hid hcA
       clear hown7 hg7 hown7b hcA))
  have hal : (allL a s stamp gen no more).length = a + N + more.length := by rw [allL_len, HN.out]
  have HVB := Lib.hid (made_at w7 (.cells #[.slice (some ⟨gA, 0, none⟩) (a + N + more.length) capA] 41))
  have HCW := Lib.hid (show ∀ i t, (allL a s stamp gen no more)[i]? = some t → (w7.alloc (.cells #[.slice (some ⟨gA, 0, none⟩) (a + N + more.length) capA] 41)).cell? ⟨gA, i, none⟩ = some (.string t) from fun i t ht => cell_later ((Below.refl _ _).alloc (Nat.le_refl _) _) (HCA.out i t ht))
  have HB8 := Lib.hid (HB7.out.alloc HB7.out.size (.cells #[.slice (some ⟨gA, 0, none⟩) (a + N + more.length) capA] 41))
  rw [hal] at HLN
  have HLN2 := Lib.hid (show nextP (rdL (allL a s stamp gen no more)) a ((a : Int) + N + more.length) gen no = some (s, (a : Int) + N) from HLN.out)
  clear HLN
  generalize w7.alloc (.cells #[.slice (some ⟨gA, 0, none⟩) (a + N + more.length) capA] 41) = W8 at HVB HCW HB8 ⊢
  generalize w7.heap.size = b at HVB ⊢
  generalize allL a s stamp gen no more = L at hal HCW HLN2 HLS HLO
  have HAL := Lib.hid hal
  clear HCA HB7 HB6 HM6 HO6 HB5 HO5 HC5 HRW5 HRW4 HTL HTM hmk HB4 hal hi0 hz0 hz1 hz2
  refine (lnext 21 (enters _ _ Try.func21 (by decide) (by decide)) lclos1_is L (a + N + more.length) b gA capA HAL.out a ((a : Int) + N + more.length) gen no (by omega) (by omega) (by omega) W8 HVB.out HCW.out).mono ?_
  rintro e w9 ⟨rfl, hb9⟩
  rw [HLN2.out]
  unfold nextV
  have HB9 := Lib.hid (below_step HB8.out hb9)
  have HVB9 := Lib.hid (later_at hb9 HVB.out)
  have HCW9 := Lib.hid (show ∀ i t, L[i]? = some t → w9.cell? ⟨gA, i, none⟩ = some (.string t) from fun i t ht => cell_later hb9 (HCW.out i t ht))
  clear hb9 HB8 HVB HCW
  go_wp2_with fail
  refine (lnext 22 (enters _ _ Try.func22 (by decide) (by decide)) lclos2_is L (a + N + more.length) b gA capA HAL.out a ((a : Int) + N - 1) gen no (by omega) (by omega) (by omega) w9 HVB9.out HCW9.out).mono ?_
  rintro e w10 ⟨rfl, hb10⟩
  rw [HLS.out]
  unfold nextV
  have HB10 := Lib.hid (below_step HB9.out hb10)
  have HVB10 := Lib.hid (later_at hb10 HVB9.out)
  have HCW10 := Lib.hid (show ∀ i t, L[i]? = some t → w10.cell? ⟨gA, i, none⟩ = some (.string t) from fun i t ht => cell_later hb10 (HCW9.out i t ht))
  clear hb10 HB9 HVB9 HCW9
  have vb := cellH HVB10.out 0
  simp at vb
  go_wp2_with fail
  refine (lnext 23 (enters _ _ Try.func23 (by decide) (by decide)) lclos3_is L (a + N + more.length) b gA capA HAL.out a ((a : Int) + N + more.length) gen (no + 1) (by omega) (by omega) (by omega) w10 HVB10.out HCW10.out).mono ?_
  rintro e w11 ⟨rfl, hb11⟩
  rw [HLO.out]
  unfold nextV
  have HB11 := Lib.hid (below_step HB10.out hb11)
  clear hb11 HB10 HVB10 HCW10 vb
  have hss : (s.toList == s.toList) = true := by simp
  go_wp2_with fail
  refine bodyPost_ret (v := .bool true) (by simp [results, Try.results5, go_sem]) rfl ⟨rfl, HB11.out⟩
end Go.Proofs.Ytblmempidngcgaa
