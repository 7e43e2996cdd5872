/-
  The law CodecBack, walked. No conditions but how the argument lies in memory, and what the package-level variables hold.
-/
import Derived.Test.YtnajbcbdncmbbaaDoorCodM
namespace Go.Proofs.YtnajbcbdncmbbaaDoor
open Go.RowKit

/-- What the document writes of one call. -/
def levX (a : Int) : Int := a % 8
def opX (o : COp) : ByteArray := if o.k = 1 then numX o.n else if o.k = 2 then numX o.s.size ++ o.s else numX (levX o.a) ++ numX o.b
def headX (op : Nat → COp) : Nat → ByteArray
  | 0 => .empty
  | k + 1 => headX op k ++ opX (op k)
def tailX (op : Nat → COp) : Nat → Nat → ByteArray
  | 0, _ => .empty
  | m + 1, k => opX (op k) ++ tailX op m (k + 1)
theorem head_tail (op : Nat → COp) : ∀ m k : Nat, headX op k ++ tailX op m k = headX op (k + m) := by
  intro m
  induction m with
  | zero => intro k; apply bl_inj; rw [bl_append]; exact List.append_nil _
  | succ m ih =>
    intro k
    have h := ih (k + 1)
    rw [show k + 1 + m = k + (m + 1) by omega] at h
    rw [← h]
    apply bl_inj
    simp only [tailX, headX, bl_append, List.append_assoc]
theorem opX_size {o : COp} (ho : o.Ok) (hs : o.s.size ≤ 300) : (opX o).size ≤ 342 := by
  unfold opX
  split
  · have := numX_len ho.n0 ho.n1; omega
  · split
    · have := numX_len (n := (o.s.size : Int)) (by omega) (by omega); rw [ByteArray.size_append]; omega
    · have h1 := numX_len (n := levX o.a) (by unfold levX; omega) (by unfold levX; omega)
      have h2 := numX_len (n := o.b) (by have := ho.b0; omega) (by have := ho.b1; omega)
      rw [ByteArray.size_append]; omega
theorem headX_size {op : Nat → COp} {n : Nat} (h : ∀ i, i < n → (opX (op i)).size ≤ 342) : ∀ k, k ≤ n → (headX op k).size ≤ 342 * k := by
  intro k
  induction k with
  | zero => intro _; exact Nat.le_refl _
  | succ k ih =>
    intro hk
    have h1 := ih (by omega)
    have h2 := h k (by omega)
    simp only [headX]
    rw [ByteArray.size_append]
    omega
theorem tailX_size {op : Nat → COp} {n : Nat} (h : ∀ i, i < n → (opX (op i)).size ≤ 342) : ∀ m k, k + m ≤ n → (tailX op m k).size ≤ 342 * m := by
  intro m
  induction m with
  | zero => intro k _; exact Nat.le_refl _
  | succ m ih =>
    intro k hk
    have h1 := ih (k + 1) (by omega)
    have h2 := h k (by omega)
    simp only [tailX]
    rw [ByteArray.size_append]
    omega
theorem take_num {n lo hi : Int} (T : ByteArray) (h0 : -9223372036854775808 ≤ n) (h1 : n ≤ 9223372036854775807) (h2 : lo ≤ n) (h3 : n ≤ hi) : Takes (bl (numX n ++ T)) lo hi (some (n, bl T)) :=
  .inl ⟨n, bl T, h0, h1, by rw [bl_append, bl_numX], h2, h3, rfl⟩
theorem iS_num (S T : ByteArray) (n : Int) : iS S false (some (n, bl T)) = T := ofL_bl T
theorem t_text (S s T : ByteArray) : tV false (some ((s.size : Int), bl (s ++ T))) = s ∧ tS S false (some ((s.size : Int), bl (s ++ T))) = T ∧ tB false (some ((s.size : Int), bl (s ++ T))) = false := by
  have h : ¬ ((bl (s ++ T)).length : Int) < (s.size : Int) := by rw [bl_append, List.length_append, bl_len, bl_len]; omega
  simp only [tV, tS, tB, rtT, rtS, rtB, Bool.false_eq_true, if_false, if_neg h, decide_eq_false h, Bool.or_self, Int.toNat_natCast]
  refine ⟨?_, ?_, trivial⟩
  · apply bl_inj
    rw [bl_ofL, bl_append, ← bl_len, List.take_left]
  · apply bl_inj
    rw [bl_ofL, bl_append, ← bl_len, List.drop_left]

/-- The Writer holds T; what it holds in memory is new since w, and below m. -/
def WrB (w W : World) (m P : Nat) (T : ByteArray) : Prop := ∃ O, WrV W O P T ∧ ∀ i ∈ O, w.heap.size ≤ i ∧ i < m
section
variable {w W V : World} {m P : Nat} {T : ByteArray}
theorem WrB.below (h : WrB w W m P T) (hb : Below W.heap.size W V) : WrB w V m P T := by
  obtain ⟨O, h1, h2⟩ := h
  exact ⟨O, h1.below hb, h2⟩
theorem WrB.top (h : WrB w W m P T) : WrB w W W.heap.size P T := by
  obtain ⟨O, h1, h2⟩ := h
  exact ⟨O, h1, fun i hi => ⟨(h2 i hi).1, h1.wr.low.2 i hi⟩⟩
/-- What a call of the Writer leaves. -/
def WroteB (w W : World) (m P : Nat) (T : ByteArray) (e : Ending) (w' : World) : Prop :=
  e = .returned (.tuple #[]) ∧ WrB w w' w'.heap.size P T ∧ Below w.heap.size w w' ∧ ∀ j o, m ≤ j → W.heap[j]? = some o → w'.heap[j]? = some o
theorem wroteB {O : List Nat} {T2 : ByteArray} (hl : Below w.heap.size w W) (hO : ∀ i ∈ O, w.heap.size ≤ i ∧ i < m) {e : Ending} {w' : World} (g : WroteV W O P T2 e w') : WroteB w W m P T2 e w' := by
  obtain ⟨he, O', h1, h2, h3⟩ := g
  refine ⟨he, ⟨O', h1, fun i hi => ⟨?_, h1.wr.low.2 i hi⟩⟩, h3.low hl fun i hi => (hO i hi).1, fun j o hj ho => ?_⟩
  · rcases h2 i hi with h | h
    · exact (hO i h).1
    · exact Nat.le_trans hl.size h
  · rw [h3.block j (Array.getElem?_eq_some_iff.1 ho).1 (fun hm => by have := (hO j hm).2; omega)]
    exact ho
theorem off_of {O : List Nat} {A : Option Addr} (hO : ∀ i ∈ O, w.heap.size ≤ i ∧ i < m) (hA : ∀ ad, A = some ad → m ≤ ad.block) : Off A O := fun ad e hm => by
  have h1 := (hO _ hm).2
  have h2 := hA ad e
  omega
theorem wb_int (h : WrB w W m P T) (hl : Below w.heap.size w W) (A : Option Addr) (L : List Int) (c : Nat) (hA : IntsAt W A L) (hm : ∀ ad, A = some ad → m ≤ ad.block) (hr : ∀ n ∈ L, -9223372036854775808 ≤ n ∧ n ≤ 9223372036854775807) (hL : L.length ≤ 1000000000) (hb : (intsX T L).size ≤ 140737488355328) :
    Calls Tryd.prog 10 #[.pointer (some ⟨P, 0, none⟩), .slice A L.length c] W (WroteB w W m P (intsX T L)) := by
  obtain ⟨O, h1, h2⟩ := h
  exact (wint_is h1 A L c hA (off_of h2 hm) hr hL hb).mono fun _ _ g => wroteB hl h2 g
theorem wb_text (h : WrB w W m P T) (hl : Below w.heap.size w W) (A : Option Addr) (L : List ByteArray) (c : Nat) (hA : TxtsAt W A L) (hm : ∀ ad, A = some ad → m ≤ ad.block) (hL : L.length ≤ 1000000000) (hb : (txtsX T L).size ≤ 140737488355328) :
    Calls Tryd.prog 12 #[.pointer (some ⟨P, 0, none⟩), .slice A L.length c] W (WroteB w W m P (txtsX T L)) := by
  obtain ⟨O, h1, h2⟩ := h
  exact (wtext_is h1 A L c hA (off_of h2 hm) hL hb).mono fun _ _ g => wroteB hl h2 g
theorem wb_label (h : WrB w W m P T) (hl : Below w.heap.size w W) (a b : Int) (ha0 : -9223372036854775808 ≤ a) (ha1 : a ≤ 9223372036854775807) (hb0 : 0 ≤ b) (hb1 : b ≤ 65535) (hb : (intsX T [a, b]).size ≤ 140737488355328) :
    Calls Tryd.prog 14 #[.pointer (some ⟨P, 0, none⟩), .agg #[.int .i64 a, .int .u16 b]] W (WroteB w W m P (intsX T [a, b])) := by
  obtain ⟨O, h1, h2⟩ := h
  exact (wlabel_is h1 a b ha0 ha1 hb0 hb1 hb).mono fun _ _ g => wroteB hl h2 g
theorem WrB.str (h : WrB w W m P T) : Calls Tryd.prog 15 #[.pointer (some ⟨P, 0, none⟩)] W fun e w' => e = .returned (.string T) ∧ Below W.heap.size W w' := by
  obtain ⟨O, h1, _⟩ := h
  exact str_is h1.wr
/-- The Writer holds T, and nothing that was there has turned. -/
def BkI (w : World) (P : Nat) (T : ByteArray) (W : World) : Prop := WrB w W W.heap.size P T ∧ Below w.heap.size w W
theorem BkI.below (h : BkI w P T W) (hb : Below W.heap.size W V) : BkI w P T V := ⟨(h.1.below hb).top, below_step h.2 hb⟩
end

section
variable {w : World} {A : Option Addr} {n c : Nat} {op : Nat → COp}
set_option maxHeartbeats 4000000 in
set_option maxRecDepth 100000 in
theorem back_true (hV : VarsAt w) (hA : CopsAt w A n op) (hn : n ≤ 9223372036854775807) (hok : ∀ i, i < n → (op i).Ok) :
    Calls Tryd.prog 3 #[.slice A n c] w fun e w' => e = .returned (.bool true) ∧ Below w.heap.size w w' := by
  have HA := Lib.hid hA
  have HV := Lib.hid hV
  have HOK := Lib.hid hok
  clear hA hV hok
  go_enter Tryd.func3, Tryd.ntmps3
  go_wp2_with fail
  refine (awake_true HV.out).mono ?_
  rintro e w1 ⟨rfl, hb1⟩
  have HB1 := Lib.hid hb1
  clear hb1
  go_wp2_with fail
  refine (few_is (HA.out.later HB1.out) hn).mono ?_
  rintro e w2 ⟨⟨b, rfl, hfew⟩, hb2⟩
  have HB2 := Lib.hid (below_step HB1.out hb2)
  clear hb2 HB1
  cases b with
  | false =>
    go_wp2_with fail
    refine (awake_true (HV.out.later HB2.out)).mono ?_
    rintro e w3 ⟨rfl, hb3⟩
    have HB := Lib.hid (below_step HB2.out hb3)
    clear hb3
    go_wp2_with fail
    go_ret
    exact ⟨rfl, HB.out⟩
  | true =>
    obtain ⟨hn100, hlen⟩ := hfew rfl
    have HLEN := Lib.hid hlen
    clear hfew hlen
    go_wp2_with fail
    have HSZ := Lib.hid (fun i (hi : i < n) => opX_size (HOK.out i hi) (HLEN.out i hi))
    have hPl : w.heap.size ≤ w2.heap.size := HB2.out.size
    have HW3 := Lib.hid (show WrB w (w2.alloc (.cells #[.pointer none, .int .i64 0] 27)) (w2.alloc (.cells #[.pointer none, .int .i64 0] 27)).heap.size w2.heap.size .empty from ⟨_, WrV.zero (HV.out.later HB2.out), fun i hi => by rw [List.mem_singleton] at hi; subst hi; exact ⟨hPl, by simp⟩⟩)
    have HB3 := Lib.hid (HB2.out.alloc HB2.out.size (.cells #[.pointer none, .int .i64 0] 27))
    clear HB2
    go_loopw [4, 21] (fun a i wr => ∃ (k : Nat) (S : ByteArray), k ≤ n ∧ i = .int .i64 k ∧ a = .string S ∧ Hid (S = headX op k) ∧ WrB w wr wr.heap.size w2.heap.size S ∧ Below w.heap.size w wr) (fun _ i _ => n - (intOf i).toNat)
    case atStart => exact ⟨0, .empty, Nat.zero_le _, rfl, rfl, Lib.hid rfl, HW3.out, HB3.out⟩
    case round =>
      obtain ⟨k, T, hk, rfl, rfl, hT, hW, hB⟩ := hrel
      clear HW3 HB3
      have HW := Lib.hid hW
      have HB := Lib.hid hB
      clear hW hB
      by_cases hlt : k < n
      · obtain ⟨ad, e, hcell⟩ := HA.out (by omega)
        subst e
        obtain ⟨y0, y1, y2, y3, y4, y5, y6⟩ := hcell k hlt
        have x0 := cell_later HB.out y0
        have x1 := cell_later HB.out y1
        have x2 := cell_later HB.out y2
        have x3 := cell_later HB.out y3
        have x4 := cell_later HB.out y4
        have x5 := cell_later HB.out y5
        have x6 := cell_later HB.out y6
        clear hcell y0 y1 y2 y3 y4 y5 y6
        have HQ := Lib.hid (HOK.out k hlt)
        have HQL := Lib.hid (HLEN.out k hlt)
        obtain ⟨T2, hTT⟩ : ∃ T2, T2 = headX op (k + 1) := ⟨_, rfl⟩
        have HTT := Lib.hid hTT
        have HNX := Lib.hid (show T2 = T ++ opX (op k) by rw [hTT, hT.out]; rfl)
        have hhs : T.size ≤ 342 * k := by rw [hT.out]; exact headX_size HSZ.out k hk
        clear hTT hT
        generalize op k = q at x0 x1 x2 x3 x4 x5 x6 HQ HQL HNX
        obtain ⟨qk, qn, qlo, qhi, qs, qa, qb⟩ := q
        simp only at x0 x1 x2 x3 x4 x5 x6
        by_cases k1 : qk = 1
        · subst k1
          have hns : 2 ≤ (numX qn).size ∧ (numX qn).size ≤ 21 := numX_len HQ.out.n0 HQ.out.n1
          have hT2 : T2 = T ++ numX qn := HNX.out
          have HSIZ := Lib.hid (show (intsX T [qn]).size ≤ 140737488355328 by show (T ++ numX qn).size ≤ _; rw [size_cat]; omega)
          have hcat : ¬ 9223372036854775807 < T.size + (numX qn).size := by omega
          have HNUM := Lib.hid (fun W : World => refnum_is qn HQ.out.n0 HQ.out.n1 W)
          have HQR := Lib.hid (And.intro HQ.out.n0 HQ.out.n1)
          simp only at HQR HNUM
          have h1 := made_at wr (.cells #[.int .i64 1, .int .i64 qn, .int .i64 qlo, .int .i64 qhi, .string qs, .int .i64 (bits .and .i64 qa 7), .int .u16 qb] 32)
          have l1 := (Below.refl wr.heap.size wr).alloc (Nat.le_refl _) (.cells #[.int .i64 1, .int .i64 qn, .int .i64 qlo, .int .i64 qhi, .string qs, .int .i64 (bits .and .i64 qa 7), .int .u16 qb] 32)
          have e1 : (wr.alloc (.cells #[.int .i64 1, .int .i64 qn, .int .i64 qlo, .int .i64 qhi, .string qs, .int .i64 (bits .and .i64 qa 7), .int .u16 qb] 32)).heap.size = wr.heap.size + 1 := by simp
          have b2 := (Below.refl _ (wr.alloc (.cells #[.int .i64 1, .int .i64 qn, .int .i64 qlo, .int .i64 qhi, .string qs, .int .i64 (bits .and .i64 qa 7), .int .u16 qb] 32))).alloc (Nat.le_refl _) (.cells #[.int .i64 qn] 3)
          have HW5 := Lib.hid ((HW.out.below l1).below b2)
          have HO5 := Lib.hid (later_at b2 h1)
          have HB5 := Lib.hid (below_step (below_step HB.out l1) b2)
          have HAR := Lib.hid (show IntsAt ((wr.alloc (.cells #[.int .i64 1, .int .i64 qn, .int .i64 qlo, .int .i64 qhi, .string qs, .int .i64 (bits .and .i64 qa 7), .int .u16 qb] 32)).alloc (.cells #[.int .i64 qn] 3)) (some ⟨wr.heap.size + 1, 0, none⟩) [qn] from fun _ => ⟨_, rfl, fun i n h => by
            match i, h with
            | 0, h =>
              obtain rfl := Option.some.inj h
              have := (cellH (made_at (wr.alloc (.cells #[.int .i64 1, .int .i64 qn, .int .i64 qlo, .int .i64 qhi, .string qs, .int .i64 (bits .and .i64 qa 7), .int .u16 qb] 32)) (.cells #[.int .i64 qn] 3)) 0).trans (show _ = some (Value.int .i64 qn) from rfl)
              rw [e1] at this
              exact this⟩)
          clear h1 l1 e1 b2
          go_wp2_with fail
          refine (wb_int HW5.out HB5.out _ [qn] _ HAR.out (fun ad e => by obtain rfl := Option.some.inj e; exact Nat.le_succ _) (by simpa using HQR.out) (by simp) HSIZ.out).mono ?_
          rintro e w6 ⟨rfl, hw6, hb6, hk6⟩
          have HW6 := Lib.hid (show WrB w w6 w6.heap.size w2.heap.size T2 by rw [hT2]; exact hw6)
          have HO6 := Lib.hid (hk6 _ _ (Nat.le_refl _) HO5.out)
          have HB6 := Lib.hid hb6
          clear hw6 hb6 hk6 HSIZ HW5 HO5 HB5 HAR HW HB x0 x1 x2 x3 x4 x5 x6
          have z1 := cellH HO6.out 1
          simp at z1
          go_wp2_with fail
          refine (HNUM.out _).mono ?_
          rintro e w7 ⟨rfl, hb7⟩
          have HW7 := Lib.hid ((HW6.out.below hb7).top)
          have HB7 := Lib.hid (below_step HB6.out hb7)
          clear hb7 HW6 HB6 HO6 z1 HNUM
          go_wp2_with fail
          go_roundw
          case rel => exact ⟨k + 1, T2, by omega, by go_num, by rw [hT2], HTT, HW7.out, HB7.out⟩
          case measure => simp [intOf]; omega
        · have b1 : (qk == 1) = false := by simpa using k1
          by_cases k2 : qk = 2
          · subst k2
            have hq3 : qs.size ≤ 300 := HQL.out
            have hns := numX_len (n := (qs.size : Int)) (by omega) (by omega)
            have hT2 : T2 = T ++ (numX qs.size ++ qs) := HNX.out
            have HSIZ := Lib.hid (show (txtsX T [qs]).size ≤ 140737488355328 by show (T ++ (numX qs.size ++ qs)).size ≤ _; rw [size_cat, size_cat]; omega)
            have hcat : ¬ 9223372036854775807 < T.size + ((numX qs.size).size + qs.size) := by omega
            have hcat2 : ¬ 9223372036854775807 < T.size + (numX qs.size ++ qs).size := by rw [ByteArray.size_append]; omega
            have HNUM := Lib.hid (fun W : World => reftext_is qs (by omega) W)
            have h1 := made_at wr (.cells #[.int .i64 2, .int .i64 qn, .int .i64 qlo, .int .i64 qhi, .string qs, .int .i64 (bits .and .i64 qa 7), .int .u16 qb] 32)
            have l1 := (Below.refl wr.heap.size wr).alloc (Nat.le_refl _) (.cells #[.int .i64 2, .int .i64 qn, .int .i64 qlo, .int .i64 qhi, .string qs, .int .i64 (bits .and .i64 qa 7), .int .u16 qb] 32)
            have e1 : (wr.alloc (.cells #[.int .i64 2, .int .i64 qn, .int .i64 qlo, .int .i64 qhi, .string qs, .int .i64 (bits .and .i64 qa 7), .int .u16 qb] 32)).heap.size = wr.heap.size + 1 := by simp
            have b2 := (Below.refl _ (wr.alloc (.cells #[.int .i64 2, .int .i64 qn, .int .i64 qlo, .int .i64 qhi, .string qs, .int .i64 (bits .and .i64 qa 7), .int .u16 qb] 32))).alloc (Nat.le_refl _) (.cells #[.string qs] 9)
            have HW5 := Lib.hid ((HW.out.below l1).below b2)
            have HO5 := Lib.hid (later_at b2 h1)
            have HB5 := Lib.hid (below_step (below_step HB.out l1) b2)
            have HAR := Lib.hid (show TxtsAt ((wr.alloc (.cells #[.int .i64 2, .int .i64 qn, .int .i64 qlo, .int .i64 qhi, .string qs, .int .i64 (bits .and .i64 qa 7), .int .u16 qb] 32)).alloc (.cells #[.string qs] 9)) (some ⟨wr.heap.size + 1, 0, none⟩) [qs] from fun _ => ⟨_, rfl, fun i n h => by
              match i, h with
              | 0, h =>
                obtain rfl := Option.some.inj h
                have := (cellH (made_at (wr.alloc (.cells #[.int .i64 2, .int .i64 qn, .int .i64 qlo, .int .i64 qhi, .string qs, .int .i64 (bits .and .i64 qa 7), .int .u16 qb] 32)) (.cells #[.string qs] 9)) 0).trans (show _ = some (Value.string qs) from rfl)
                rw [e1] at this
                exact this⟩)
            clear h1 l1 e1 b2
            go_wp2_with fail
            refine (wb_text HW5.out HB5.out _ [qs] _ HAR.out (fun ad e => by obtain rfl := Option.some.inj e; exact Nat.le_succ _) (by simp) HSIZ.out).mono ?_
            rintro e w6 ⟨rfl, hw6, hb6, hk6⟩
            have HW6 := Lib.hid (show WrB w w6 w6.heap.size w2.heap.size T2 by rw [hT2]; exact hw6)
            have HO6 := Lib.hid (hk6 _ _ (Nat.le_refl _) HO5.out)
            have HB6 := Lib.hid hb6
            clear hw6 hb6 hk6 HSIZ HW5 HO5 HB5 HAR HW HB x0 x1 x2 x3 x4 x5 x6
            have z4 := cellH HO6.out 4
            simp at z4
            go_wp2_with fail
            refine (HNUM.out _).mono ?_
            rintro e w7 ⟨rfl, hb7⟩
            have HW7 := Lib.hid ((HW6.out.below hb7).top)
            have HB7 := Lib.hid (below_step HB6.out hb7)
            clear hb7 HW6 HB6 HO6 z4 HNUM
            go_wp2_with fail
            go_roundw
            case rel => exact ⟨k + 1, T2, by omega, by go_num, by rw [hT2], HTT, HW7.out, HB7.out⟩
            case measure => simp [intOf]; omega
          · have bb2 : (qk == 2) = false := by simpa using k2
            obtain ⟨lv, hlv⟩ : ∃ lv, lv = levX qa := ⟨_, rfl⟩
            have hand : bits .and .i64 qa 7 = lv := by rw [i64_and7, hlv]; rfl
            have hl0 : 0 ≤ lv ∧ lv ≤ 7 := by rw [hlv]; unfold levX; omega
            have hq0 : 0 ≤ qb := HQ.out.b0
            have hq1 : qb ≤ 65535 := HQ.out.b1
            have hn1 := numX_len (n := lv) (by omega) (by omega)
            have hn2 := numX_len (n := qb) (by omega) (by omega)
            have hT2 : T2 = T ++ (numX lv ++ numX qb) := by
              refine HNX.out.trans ?_
              unfold opX
              rw [if_neg k1, if_neg k2, hlv]
            have hcat : ¬ 9223372036854775807 < (numX lv).size + (numX qb).size := by omega
            have hcat1 : ¬ 9223372036854775807 < T.size + ((numX lv).size + (numX qb).size) := by omega
            have hcat2 : ¬ 9223372036854775807 < T.size + (numX lv ++ numX qb).size := by rw [ByteArray.size_append]; omega
            have HSIZ := Lib.hid (show (intsX T [lv, qb]).size ≤ 140737488355328 by show (T ++ numX lv ++ numX qb).size ≤ _; rw [size_cat, size_cat]; omega)
            have HNA := Lib.hid (fun W : World => refnum_is lv (by omega) (by omega) W)
            have HNB := Lib.hid (fun W : World => refnum_is qb (by omega) (by omega) W)
            clear hlv
            have l1 := (Below.refl wr.heap.size wr).alloc (Nat.le_refl _) (.cells #[.int .i64 qk, .int .i64 qn, .int .i64 qlo, .int .i64 qhi, .string qs, .int .i64 lv, .int .u16 qb] 32)
            have HW5 := Lib.hid (HW.out.below l1)
            have HO5 := Lib.hid (made_at wr (.cells #[.int .i64 qk, .int .i64 qn, .int .i64 qlo, .int .i64 qhi, .string qs, .int .i64 lv, .int .u16 qb] 32))
            have HB5 := Lib.hid (below_step HB.out l1)
            clear l1
            go_wp2_with fail
            refine (wb_label HW5.out HB5.out lv qb (by omega) (by omega) hq0 hq1 HSIZ.out).mono ?_
            rintro e w6 ⟨rfl, hw6, hb6, hk6⟩
            have HW6 := Lib.hid (show WrB w w6 w6.heap.size w2.heap.size T2 by
              have e7 : T2 = intsX T [lv, qb] := by
                rw [hT2]
                apply bl_inj
                simp only [intsX, List.foldl, bl_append, List.append_assoc]
              rw [e7]
              exact hw6)
            have HO6 := Lib.hid (hk6 _ _ (Nat.le_refl _) HO5.out)
            have HB6 := Lib.hid hb6
            clear hw6 hb6 hk6 HSIZ HW5 HO5 HB5 HW HB x0 x1 x2 x3 x4 x5 x6
            have z5 := cellH HO6.out 5
            have z6 := cellH HO6.out 6
            simp at z5 z6
            have HK := Lib.hid (show (HoldS w6 [(⟨wr.heap.size, 5, none⟩, .int .i64 lv), (⟨wr.heap.size, 6, none⟩, .int .u16 qb)] (BkI w w2.heap.size T2)) w6.drew from ⟨cc z5 (cc z6 cn), BkI.below ⟨HW6.out, HB6.out⟩ (Below.refl _ _).drew, (Below.refl _ _).drew⟩)
            have f0 : ∀ x : HeldW (HoldS w6 [(⟨wr.heap.size, 5, none⟩, .int .i64 lv), (⟨wr.heap.size, 6, none⟩, .int .u16 qb)] (BkI w w2.heap.size T2)), x.w.cell? ⟨wr.heap.size, 5, none⟩ = some (.int .i64 lv) := fun x => x.at_ 0 rfl
            have f1 : ∀ x : HeldW (HoldS w6 [(⟨wr.heap.size, 5, none⟩, .int .i64 lv), (⟨wr.heap.size, 6, none⟩, .int .u16 qb)] (BkI w w2.heap.size T2)), x.w.cell? ⟨wr.heap.size, 6, none⟩ = some (.int .u16 qb) := fun x => x.at_ 1 rfl
            have NUMS := Lib.hid (show ∀ m : Int, m = lv ∨ m = qb → ∀ W : World, Calls Tryd.prog 11 #[.int .i64 m] W fun e w' => e = .returned (.string (numX m)) ∧ Below W.heap.size W w' from fun m hm W => by
              rcases hm with rfl | rfl
              · exact HNA.out W
              · exact HNB.out W)
            clear HNA HNB
            go_wp2_with fail
            refine wp_region_kept _ (by kernel_rfl) (by kernel_rfl) HK.out ?_
            intro hne
            repeat (go_big_quiet_step (first | exact rfl | (go_at_call 11; refine kept_of (HoldS.keep (fun _ _ h hb => BkI.below h hb)) (NUMS.out _ (by first | exact .inl rfl | exact .inr rfl) _))))
            refine wpQuiet_nil ?_
            rintro w7 ⟨⟨_, hq⟩, rfl⟩
            obtain ⟨_, h7, _⟩ := hq
            clear f0 f1 hne z5 z6 HW6 HB6 HO6 NUMS HK
            go_wp2_with fail
            go_roundw
            case rel => exact ⟨k + 1, T2, by omega, by go_num, by rw [hT2], HTT, h7.1, h7.2⟩
            case measure => simp [intOf]; omega
      · obtain rfl : k = n := by omega
        have hts : T.size ≤ 34200 := by rw [hT.out]; have := headX_size HSZ.out k (Nat.le_refl _); omega
        have HTL := Lib.hid (show T = tailX op k 0 by
          have h := head_tail op k 0
          rw [show 0 + k = k by omega] at h
          rw [hT.out, ← h]
          apply bl_inj
          rw [bl_append]
          rfl)
        have hbne : (T.toList != T.toList) = false := by simp
        clear hT
        go_wp2_with fail
        refine (WrB.str HW.out).mono ?_
        rintro e w4 ⟨rfl, hb4⟩
        have HB4 := Lib.hid (below_step HB.out hb4)
        clear hb4 HW HB
        go_wp2_with fail
        refine (new_is T _).mono ?_
        rintro e w5 ⟨R, rfl, hR0, hR, hb5⟩
        have HR5 := Lib.hid hR
        have HB5 := Lib.hid (below_step HB4.out hb5)
        have hRl : w.heap.size ≤ R := Nat.le_trans HB4.out.size hR0
        clear hR0 hR hb5 HB4
        go_wp2_with fail
        go_loopw [78] (fun i wr => ∃ (m : Nat) (S : ByteArray), m ≤ k ∧ i = .int .i64 m ∧ Hid (S = tailX op (k - m) m) ∧ RdAt wr R S false ∧ Below w.heap.size w wr) (fun i _ => k - (intOf i).toNat)
        case atStart => exact ⟨0, T, Nat.zero_le _, rfl, HTL, HR5.out, HB5.out⟩
        case round =>
          obtain ⟨m, S, hm, rfl, hS, hR, hB⟩ := hrel
          clear HR5 HB5
          have HR := Lib.hid hR
          have HB := Lib.hid hB
          clear hR hB
          by_cases hlt : m < k
          · obtain ⟨ad, e, hcell⟩ := HA.out (by omega)
            subst e
            obtain ⟨y0, y1, y2, y3, y4, y5, y6⟩ := hcell m hlt
            have x0 := cell_later HB.out y0
            have x1 := cell_later HB.out y1
            have x2 := cell_later HB.out y2
            have x3 := cell_later HB.out y3
            have x4 := cell_later HB.out y4
            have x5 := cell_later HB.out y5
            have x6 := cell_later HB.out y6
            clear hcell y0 y1 y2 y3 y4 y5 y6
            have HQ := Lib.hid (HOK.out m hlt)
            have HQL := Lib.hid (HLEN.out m hlt)
            obtain ⟨S2, hS2⟩ : ∃ S2, S2 = tailX op (k - (m + 1)) (m + 1) := ⟨_, rfl⟩
            have HS2 := Lib.hid hS2
            have HST := Lib.hid (show S = opX (op m) ++ S2 by
              rw [hS2, hS.out]
              obtain ⟨j, hj⟩ : ∃ j, k - m = j + 1 := ⟨k - m - 1, by omega⟩
              rw [hj, show k - (m + 1) = j by omega]
              rfl)
            have hss : S.size ≤ 34200 := by rw [hS.out]; have := tailX_size HSZ.out (k - m) m (by omega); omega
            clear hS hS2
            generalize op m = q at x0 x1 x2 x3 x4 x5 x6 HQ HQL HST
            obtain ⟨qk, qn, qlo, qhi, qs, qa, qb⟩ := q
            simp only at x0 x1 x2 x3 x4 x5 x6
            by_cases k1 : qk = 1
            · subst k1
              have hST : S = numX qn ++ S2 := HST.out
              have HTK := Lib.hid (show Takes (bl S) qn qn (some (qn, bl S2)) by rw [hST]; exact take_num S2 HQ.out.n0 HQ.out.n1 (Int.le_refl _) (Int.le_refl _))
              clear hST
              have l1 := (Below.refl wr.heap.size wr).alloc (Nat.le_refl _) (.cells #[.int .i64 1, .int .i64 qn, .int .i64 qlo, .int .i64 qhi, .string qs, .int .i64 (bits .and .i64 qa 7), .int .u16 qb] 32)
              have HO5 := Lib.hid (made_at wr (.cells #[.int .i64 1, .int .i64 qn, .int .i64 qlo, .int .i64 qhi, .string qs, .int .i64 (bits .and .i64 qa 7), .int .u16 qb] 32))
              have hRlt := RdAt.low HR.out
              have HR5 := Lib.hid (RdAt.only HR.out (Only1.of_below (R := wr.heap.size) (below_step l1 (Below.refl _ _).drew)) (by omega))
              have HB5 := Lib.hid (below_step HB.out (below_step l1 (Below.refl _ _).drew))
              clear l1
              have y1 := (cellH HO5.out 1).trans (show _ = some (Value.int .i64 qn) from rfl)
              go_wp2_with fail
              clear x0 x1 x2 x3 x4 x5 x6 HR HB
              go_region_held3 (fun W => W.cell? ⟨wr.heap.size, 1, none⟩ = some (.int .i64 qn) ∧ W.heap[wr.heap.size]? = some (.cells #[.int .i64 1, .int .i64 qn, .int .i64 qlo, .int .i64 qhi, .string qs, .int .i64 (bits .and .i64 qa 7), .int .u16 qb] 32 (0, 0)))
                (first | exact ⟨y1, HO5.out⟩ | exact ⟨z1, hh6.out⟩)
                (first
                  | (go_at_call 17; refine (int_is HR5.out (HV.out.later HB5.out) qn qn _ HTK.out (by omega)).mono ?_; rintro e w6 ⟨rfl, hr6, ho6⟩; have hh6 := Lib.hid (ho6.at HO5.out (by omega)); have z1 := cellH hh6.out 1; simp at z1; have HR6 := Lib.hid (show RdAt w6 R S2 false from by have h := hr6; rw [iS_num] at h; exact h); have HB6 := Lib.hid (Only1.low HB5.out ho6 hRl); clear hr6 ho6))
              clear HO5 HR5 HB5 hh6 y1 z1
              rw [show iV false (some (qn, bl S2)) = qn from rfl]
              go_wp2_with fail
              refine (rd_ok HR6.out).mono ?_
              rintro e w8 ⟨rfl, hb8⟩
              have HR8 := Lib.hid (RdAt.only HR6.out (Only1.of_below (R := w6.heap.size) hb8) (by have := RdAt.low HR6.out; omega))
              have HB8 := Lib.hid (below_step HB6.out hb8)
              clear hb8 HR6 HB6
              go_wp2_with fail
              go_roundw
              case rel => exact ⟨m + 1, S2, by omega, by go_num, HS2, HR8.out, HB8.out⟩
              case measure => simp [intOf]; omega
            · have b1 : (qk == 1) = false := by simpa using k1
              by_cases k2 : qk = 2
              · subst k2
                have hq3 : qs.size ≤ 300 := HQL.out
                have hST : S = numX qs.size ++ (qs ++ S2) := by
                  refine HST.out.trans ?_
                  apply bl_inj
                  simp only [opX, bl_append]
                  simp [bl_append]
                have HTK := Lib.hid (show Takes (bl S) 0 300 (some ((qs.size : Int), bl (qs ++ S2))) by rw [hST]; exact take_num (qs ++ S2) (by omega) (by omega) (by omega) (by omega))
                have TT := t_text S qs S2
                clear hST
                have l1 := (Below.refl wr.heap.size wr).alloc (Nat.le_refl _) (.cells #[.int .i64 2, .int .i64 qn, .int .i64 qlo, .int .i64 qhi, .string qs, .int .i64 (bits .and .i64 qa 7), .int .u16 qb] 32)
                have HO5 := Lib.hid (made_at wr (.cells #[.int .i64 2, .int .i64 qn, .int .i64 qlo, .int .i64 qhi, .string qs, .int .i64 (bits .and .i64 qa 7), .int .u16 qb] 32))
                have hRlt := RdAt.low HR.out
                have HR5 := Lib.hid (RdAt.only HR.out (Only1.of_below (R := wr.heap.size) (below_step l1 (Below.refl _ _).drew)) (by omega))
                have HB5 := Lib.hid (below_step HB.out (below_step l1 (Below.refl _ _).drew))
                clear l1
                have y4 := (cellH HO5.out 4).trans (show _ = some (Value.string qs) from rfl)
                go_wp2_with fail
                clear x0 x1 x2 x3 x4 x5 x6 HR HB
                go_region_held3 (fun W => W.cell? ⟨wr.heap.size, 4, none⟩ = some (.string qs) ∧ W.heap[wr.heap.size]? = some (.cells #[.int .i64 2, .int .i64 qn, .int .i64 qlo, .int .i64 qhi, .string qs, .int .i64 (bits .and .i64 qa 7), .int .u16 qb] 32 (0, 0)))
                  (first | exact ⟨y4, HO5.out⟩ | exact ⟨z4, hh6.out⟩)
                  (first
                    | (go_at_call 18; refine (text_is HR5.out (HV.out.later HB5.out) 300 _ HTK.out (by omega)).mono ?_; rintro e w6 ⟨rfl, hr6, ho6⟩; have hh6 := Lib.hid (ho6.at HO5.out (by omega)); have z4 := cellH hh6.out 4; simp at z4; have HR6 := Lib.hid (show RdAt w6 R S2 false from by have h := hr6; rw [TT.2.1, TT.2.2] at h; exact h); have HB6 := Lib.hid (Only1.low HB5.out ho6 hRl); clear hr6 ho6))
                clear HO5 HR5 HB5 hh6 y4 z4
                go_wp2_with fail
                refine (rd_ok HR6.out).mono ?_
                rintro e w8 ⟨rfl, hb8⟩
                have HR8 := Lib.hid (RdAt.only HR6.out (Only1.of_below (R := w6.heap.size) hb8) (by have := RdAt.low HR6.out; omega))
                have HB8 := Lib.hid (below_step HB6.out hb8)
                clear hb8 HR6 HB6
                go_wp2_with fail
                go_roundw
                case rel => exact ⟨m + 1, S2, by omega, by go_num, HS2, HR8.out, HB8.out⟩
                case measure => simp [intOf]; omega
              · have bb2 : (qk == 2) = false := by simpa using k2
                obtain ⟨lv, hlv⟩ : ∃ lv, lv = levX qa := ⟨_, rfl⟩
                have hand : bits .and .i64 qa 7 = lv := by rw [i64_and7, hlv]; rfl
                have hl0 : 0 ≤ lv ∧ lv ≤ 7 := by rw [hlv]; unfold levX; omega
                have hq0 : 0 ≤ qb := HQ.out.b0
                have hq1 : qb ≤ 65535 := HQ.out.b1
                have hST : S = numX lv ++ (numX qb ++ S2) := by
                  refine HST.out.trans ?_
                  unfold opX
                  rw [if_neg k1, if_neg k2, hlv]
                  apply bl_inj
                  simp only [bl_append, List.append_assoc]
                have LAB := Lib.hid (fun (W : World) (h : RdAt W R S false) (v : VarsAt W) => show Calls Tryd.prog 19 #[.pointer (some ⟨R, 0, none⟩)] W (fun e w' => e = .returned (.agg #[.int .i64 lv, .int .u16 qb]) ∧ RdAt w' R S2 false ∧ Only1 R W w') from
                  (label_is h v (some (lv, bl (numX qb ++ S2))) (some (qb, bl S2)) (by rw [hST]; exact take_num _ (by omega) (by omega) hl0.1 hl0.2) (by rw [iS_num]; exact take_num _ (by omega) (by omega) hq0 hq1) (by omega)).mono fun e w' g =>
                    ⟨g.1, by
                      have h2 : RdAt w' R (iS (iS S false (some (lv, bl (numX qb ++ S2)))) false (some (qb, bl S2))) false := g.2.1
                      rw [iS_num] at h2
                      exact h2, g.2.2⟩)
                clear hST hlv
                have l1 := (Below.refl wr.heap.size wr).alloc (Nat.le_refl _) (.cells #[.int .i64 qk, .int .i64 qn, .int .i64 qlo, .int .i64 qhi, .string qs, .int .i64 lv, .int .u16 qb] 32)
                have HO5 := Lib.hid (made_at wr (.cells #[.int .i64 qk, .int .i64 qn, .int .i64 qlo, .int .i64 qhi, .string qs, .int .i64 lv, .int .u16 qb] 32))
                have hRlt := RdAt.low HR.out
                have HR5 := Lib.hid (RdAt.only HR.out (Only1.of_below (R := wr.heap.size) (below_step l1 (Below.refl _ _).drew)) (by omega))
                have HB5 := Lib.hid (below_step HB.out (below_step l1 (Below.refl _ _).drew))
                clear l1
                have y5 := (cellH HO5.out 5).trans (show _ = some (Value.int .i64 lv) from rfl)
                have y6 := (cellH HO5.out 6).trans (show _ = some (Value.int .u16 qb) from rfl)
                go_wp2_with fail
                clear x0 x1 x2 x3 x4 x5 x6 HR HB
                go_region_held3 (fun W => W.cell? ⟨wr.heap.size, 5, none⟩ = some (.int .i64 lv) ∧ W.cell? ⟨wr.heap.size, 6, none⟩ = some (.int .u16 qb) ∧ W.heap[wr.heap.size]? = some (.cells #[.int .i64 qk, .int .i64 qn, .int .i64 qlo, .int .i64 qhi, .string qs, .int .i64 lv, .int .u16 qb] 32 (0, 0)))
                  (first | exact ⟨y5, y6, HO5.out⟩ | exact ⟨z5, z6, hh6.out⟩)
                  (first
                    | (go_at_call 19; refine (LAB.out _ HR5.out (HV.out.later HB5.out)).mono ?_; rintro e w6 ⟨rfl, hr6, ho6⟩; have hh6 := Lib.hid (ho6.at HO5.out (by omega)); have z5 := cellH hh6.out 5; have z6 := cellH hh6.out 6; simp at z5 z6; have HR6 := Lib.hid (show RdAt w6 R S2 false from hr6); have HB6 := Lib.hid (Only1.low HB5.out ho6 hRl); clear hr6 ho6))
                clear HO5 HR5 HB5 hh6 y5 y6 z5 z6
                go_wp2_with fail
                refine (rd_ok HR6.out).mono ?_
                rintro e w8 ⟨rfl, hb8⟩
                have HR8 := Lib.hid (RdAt.only HR6.out (Only1.of_below (R := w6.heap.size) hb8) (by have := RdAt.low HR6.out; omega))
                have HB8 := Lib.hid (below_step HB6.out hb8)
                clear hb8 HR6 HB6
                go_wp2_with fail
                go_roundw
                case rel => exact ⟨m + 1, S2, by omega, by go_num, HS2, HR8.out, HB8.out⟩
                case measure => simp [intOf]; omega
          · obtain rfl : m = k := by omega
            have he : S = .empty := by rw [hS.out, Nat.sub_self]; rfl
            subst he
            go_wp2_with fail
            refine (rd_done HR.out).mono ?_
            rintro e w9 ⟨rfl, hb9⟩
            have HB9 := Lib.hid (below_step HB.out hb9)
            clear hb9 HR HB
            go_wp2_with fail
            go_ret
            exact ⟨rfl, HB9.out⟩
end
end Go.Proofs.YtnajbcbdncmbbaaDoor
