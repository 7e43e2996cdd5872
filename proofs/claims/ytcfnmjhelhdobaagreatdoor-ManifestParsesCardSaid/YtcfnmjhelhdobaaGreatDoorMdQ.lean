/-
  Words of a pipeline's text as the program makes them: strings.Join, the builder, text's closure, namesAt. Conditions: sizes up to a million. namesAt: the names of the tasks at places, as one word. Conditions: a million places at most, names up to a million bytes.
-/
import Derived.Test.YtcfnmjhelhdobaaGreatDoorMdC
import Derived.Test.YtcfnmjhelhdobaaGreatDoorManO
import Derived.Test.YtcfnmjhelhdobaaGreatDoorCodT
import Derived.Laws.OwnMore
namespace Go.Proofs.YtcfnmjhelhdobaaGreatDoor
open Go.RowKit

theorem wstr_is (B b : Nat) (bs : List Value) (s : ByteArray) (w : World) (h : Lib.IsBuilderF 105 5 B b bs w) (hlen : bs.length + s.size ≤ 140737488355328) (hBw : B ≤ w.heap.size) :
    Calls Tryz.prog 47 #[.pointer (some ⟨b, 0, none⟩), .string s] w fun e w' => e = .returned (.tuple #[.int .i64 s.size, .nilIface]) ∧ (Lib.BuilderAtF 105 5 B b (.pointer (some ⟨b, 0, none⟩)) (bs ++ Lib.strCells s) w' ∧ Below B w w' ∧ Lib.OthersKept 5 (some b) w w') :=
  Any.Builder_WriteString_k { Tryz.lays156 with } Tryz.Builder_Extra_156 B b bs s w h hlen hBw
theorem bstr_is (B b : Nat) (l : List UInt8) (w : World) (h : Lib.IsBuilderF 105 5 B b (Lib.byteCells l) w) (hBw : B ≤ w.heap.size) :
    Calls Tryz.prog 50 #[.pointer (some ⟨b, 0, none⟩)] w fun e w' => e = .returned (.string (ofL l)) ∧ Below B w w' :=
  (Tryz.Builder_String_any_k B b l w h hBw).mono fun _ _ ⟨h1, _, h2, _⟩ => ⟨h1, h2⟩
theorem bld_later {T e : TypeId} {B b : Nat} {bs : List Value} {w w' : World} (h : Lib.IsBuilderF T e B b bs w) (hb : Below w.heap.size w w') : Lib.IsBuilderF T e B b bs w' := by
  have hg : w.grownBy w' none := ⟨hb.os, hb.tape, hb.output, hb.size, fun k hk _ => hb.block k hk⟩
  have go : ∀ p, Lib.BuilderAtF T e B b p bs w → Lib.BuilderAtF T e B b p bs w' := by
    rintro p ⟨h1, v, h2, h3, h4⟩
    refine ⟨h1, v, later_at hb h2, h3.kept hg ?_, h4⟩
    cases v.ownBlock with
    | none => exact .inl rfl
    | some x => exact .inr (by simp)
  exact h.elim (fun x => .inl (go _ x)) (fun x => .inr (go _ x))
theorem join_c (c : UInt8) : ∀ xs : List ByteArray, Lib.join (xs.map (·.data.toList)) [c] = joinC c xs
  | [] => rfl
  | [x] => by simp [Lib.join_one, joinC, bl]
  | x :: y :: r => by
    have ih := join_c c (y :: r)
    rw [List.map_cons, Lib.join_cons] at ih
    rw [List.map_cons, Lib.join_cons, joinC, ← ih, List.map_cons, Lib.joinTail, List.map_cons, List.flatten_cons, Lib.joinTail]
    simp [bl]
theorem join_len (c : UInt8) : ∀ (xs : List ByteArray) (M : Nat), (∀ x ∈ xs, x.size ≤ M) → (joinC c xs).length ≤ xs.length * (M + 1)
  | [], _, _ => by simp [joinC]
  | [x], M, h => by
    have := h x (by simp)
    rw [joinC, bl_len, List.length_singleton]
    omega
  | x :: y :: r, M, h => by
    have h1 := h x (by simp)
    have ih := join_len c (y :: r) M (fun z hz => h z (List.mem_cons_of_mem _ hz))
    rw [joinC, List.length_append, List.length_cons, bl_len, List.length_cons, Nat.add_mul, Nat.one_mul]
    omega
theorem joinS_is {g n c : Nat} {xs : List ByteArray} {w : World} {s : UInt8} (hc : ∀ (j : Nat) (x : ByteArray), xs[j]? = some x → w.cell? ⟨g, j, none⟩ = some (.string x)) (hn : xs.length = n) (hne : xs ≠ []) (hcap : n ≤ c) (hs : ∀ x ∈ xs, x.size ≤ 1000000) (hN : n ≤ 1000000) :
    Calls Tryz.prog 48 #[.slice (some ⟨g, 0, none⟩) n c, .string ⟨#[s]⟩] w fun e w' => e = .returned (.string (ofL (joinC s xs))) ∧ Below w.heap.size w w' := by
  subst hn
  have h0 : g < w.heap.size := World.block_lt_of_cell? w _ (hc 0 _ (List.getElem?_eq_getElem (List.length_pos_iff.2 hne)))
  have hl := join_len s xs 1000000 hs
  have hj := join_c s xs
  refine (Tryz.strings_Join g 0 c xs ⟨#[s]⟩ w (fun j x hx => by rw [Nat.zero_add]; exact hc j x hx) h0 (by omega) hcap ?_).mono fun e w' ⟨h1, h2⟩ => ⟨?_, h2⟩
  · show (Lib.join (xs.map (·.data.toList)) [s]).length ≤ _
    rw [hj]
    have : xs.length * (1000000 + 1) ≤ 1000000 * (1000000 + 1) := Nat.mul_le_mul_right _ hN
    omega
  · rw [h1]
    show Ending.returned (.string ⟨(Lib.join (xs.map (·.data.toList)) [s]).toArray⟩) = _
    rw [hj]
    rfl
set_option maxHeartbeats 1000000 in
set_option maxRecDepth 100000 in
/-- put: a line is written. -/
theorem put_is {B b g n c : Nat} {bs : List Value} {xs : List ByteArray} {w : World} (h : Lib.IsBuilderF 105 5 B b bs w) (hB : B ≤ w.heap.size) (hb : bs.length ≤ 1000000000)
    (hc : ∀ (j : Nat) (x : ByteArray), xs[j]? = some x → w.cell? ⟨g, j, none⟩ = some (.string x)) (hn : xs.length = n) (hne : xs ≠ []) (hcap : n ≤ c) (hs : ∀ x ∈ xs, x.size ≤ 1000000) (hN : n ≤ 1000) :
    Calls Tryz.prog 46 #[.slice (some ⟨g, 0, none⟩) n c, .pointer (some ⟨b, 0, none⟩)] w fun e w' => e = .returned (.tuple #[]) ∧ Lib.IsBuilderF 105 5 B b (bs ++ Lib.byteCells (lineB xs)) w' ∧ Below B w w' := by
  have HJ := Lib.hid (joinS_is (s := 32) hc hn hne hcap hs (by omega))
  have hl := join_len 32 xs 1000000 hs
  obtain ⟨J, hJ⟩ : ∃ J, J = ofL (joinC 32 xs) := ⟨_, rfl⟩
  have hJz : J.size ≤ 10000000000 := by
    rw [hJ]
    have e1 : (ofL (joinC 32 xs)).size = (joinC 32 xs).length := by simp [ofL, ByteArray.size]
    rw [e1]
    have : xs.length * (1000000 + 1) ≤ 1000 * (1000000 + 1) := Nat.mul_le_mul_right _ (by omega)
    omega
  rw [← hJ] at HJ
  have HH := Lib.hid h
  have HJJ := Lib.hid hJ
  have hnl : ¬ 9223372036854775807 < J.size + (⟨#[10]⟩ : ByteArray).size := by
    have : (⟨#[10]⟩ : ByteArray).size = 1 := rfl
    omega
  clear h hc hn hne hcap hs hl hJ
  go_enter Tryz.func46, Tryz.ntmps46
  go_wp2_with fail
  refine HJ.out.mono ?_
  rintro e w1 ⟨rfl, hb1⟩
  have HB1 := Lib.hid hb1
  have hw := wstr_is B b bs (J ++ ⟨#[10]⟩) w1 (bld_later HH.out hb1) (by rw [ByteArray.size_append]; have : (⟨#[10]⟩ : ByteArray).size = 1 := rfl; omega) (Nat.le_trans hB hb1.size)
  have HW := Lib.hid hw
  clear hb1 hw
  go_wp2_with fail
  refine HW.out.mono ?_
  rintro e w2 ⟨rfl, h2, hb2, _⟩
  have H2 := Lib.hid h2
  have HB2 := Lib.hid ((HB1.out.mono hB).trans hb2)
  clear h2 hb2
  go_wp2_with fail
  go_end0
  refine ⟨rfl, ?_, HB2.out⟩
  have e : Lib.strCells (J ++ ⟨#[10]⟩) = Lib.byteCells (lineB xs) := by
    rw [Lib.strCells_eq, HJJ.out]
    congr 1
  rw [← e]
  exact .inr H2.out
end Go.Proofs.YtcfnmjhelhdobaaGreatDoor

namespace Go.Proofs.YtcfnmjhelhdobaaGreatDoor
open Go.RowKit

abbrev nmsAt (ts : List TkP) (l : List Nat) : List ByteArray := l.map fun j => (ts.map (·.name)).getD j .empty
theorem nms_next {ts : List TkP} {l : List Nat} {k x : Nat} {t : TkP} (hx : l[k]? = some x) (ht : ts[x]? = some t) : nmsAt ts (l.take (k + 1)) = nmsAt ts (l.take k) ++ [t.name] := by
  rw [List.take_add_one, hx]
  simp [nmsAt, List.getD_eq_getElem?_getD, ht]
set_option maxHeartbeats 2000000 in
set_option maxRecDepth 100000 in
theorem namesat_is {w : World} {A T : Option Addr} {c d : Nat} {l : List Nat} {ts : List TkP} (hA : NatsAt w A l) (hT : TksAt w T ts) (h1 : ∀ j ∈ l, j < ts.length) (hne : l ≠ []) (hl : l.length ≤ 1000) (hs : ∀ t ∈ ts, t.name.size ≤ 1000000) :
    Calls Tryz.prog 72 #[.slice A l.length c, .slice T ts.length d] w fun e w' => e = .returned (.string (ofL (joinC 44 (nmsAt ts l)))) ∧ Below w.heap.size w w' := by
  have HA := Lib.hid hA
  have HT := Lib.hid hT
  have H1 := Lib.hid h1
  have HS := Lib.hid hs
  have HNE := Lib.hid hne
  clear hA hT h1 hs hne
  go_enter Tryz.func72, Tryz.ntmps72
  go_wp2_with fail
  go_loopw [5, 10] (fun v i wr => ∃ k : Nat, i = .int .i64 k ∧ k ≤ l.length ∧ Hid (wr.ownsRow w.heap.size 9 1 v k ((nmsAt ts (l.take k)).map Value.string)) ∧ Hid (Below w.heap.size w wr)) (fun _ i _ => l.length - (intOf i).toNat)
  case atStart => exact ⟨0, rfl, Nat.zero_le _, World.ownsRow_nil _ _ _ _, Below.refl _ _⟩
  case round =>
    obtain ⟨k, rfl, hk, HO, HB⟩ := hrel
    obtain ⟨A3, n3, c3, rfl⟩ : ∃ B n c, u5 = .slice B n c := by
      rcases HO.out.2 with ⟨h, _⟩ | ⟨g, cap, cur, h, _⟩
      · exact ⟨none, 0, 0, h⟩
      · exact ⟨_, _, _, h⟩
    obtain rfl : n3 = k := by
      rcases HO.out.2 with ⟨h, h0⟩ | ⟨g, cap, cur, h, _⟩
      · injection h with _ h2 _; omega
      · injection h
    by_cases hlt : n3 < l.length
    · obtain ⟨x, hx⟩ : ∃ x, l[n3]? = some x := ⟨_, List.getElem?_eq_getElem hlt⟩
      have hxn := H1.out x (List.mem_of_getElem? hx)
      obtain ⟨t, ht⟩ : ∃ t, ts[x]? = some t := ⟨_, List.getElem?_eq_getElem hxn⟩
      obtain ⟨ad, rfl, z1⟩ := (HA.out.later HB.out).at_ hx
      obtain ⟨pa, B1, c1, rfl, p0, _, _, _⟩ := (HT.out.later HB.out).at_ ht
      have HNX := Lib.hid (nms_next hx ht)
      have hk0 : (0 : Int) ≤ (n3 : Int) := by omega
      have hkl : (n3 : Int) < (l.length : Int) := by omega
      have hx0 : (0 : Int) ≤ (x : Int) := by omega
      have hxl : (x : Int) < (ts.length : Int) := by omega
      clear hx ht hxn
      have b1 := (Below.refl wr.heap.size wr).alloc (Nat.le_refl _) (.cells #[.string t.name] 9)
      have HB1 := Lib.hid (below_step HB.out b1)
      have HO1 := Lib.hid (own_agree HO.out (fun q _ hq => b1.block q hq))
      have HNW := Lib.hid (cells_new wr [.string t.name] 9)
      have hbase : w.heap.size ≤ (wr.alloc (.cells #[.string t.name] 9)).heap.size := HB1.out.size
      obtain ⟨i0, hi0, hz0, hz1, hz2⟩ := info_all info_str3
      clear b1
      go_wp2_with (at_builtin; refine wpList_append_own _ rfl (.tmp 14) (.tmp 20) 59 rfl w.heap.size 9 i0 _ 1 16 Tryz.underlying59 hi0 hz0 hz1 hz2 rfl (by omega) (.slice A3 n3 c3) n3 _ rfl HO1.out ⟨wr.heap.size, 0, none⟩ 1 1 [.string t.name] rfl rfl HNW.out (by simp [Value.oneCell']) (by unfold maxLen; omega) (by omega) hbase ?_; intro v4 w4 hown4 hg4 _; have HO4 := Lib.hid hown4; have HB4 := Lib.hid (HB1.out.grown hg4 HB1.out.size (fun g e => (own_tag HO1.out e).1)); clear hown4 hg4)
      go_roundw
      case rel => exact ⟨n3 + 1, by go_num, by omega, by rw [HNX.out, List.map_append]; exact HO4, HB4⟩
      case measure => simp [intOf]; omega
    · have hke : n3 = l.length := by omega
      subst hke
      have ho := HO.out
      rw [List.take_length] at ho
      clear HO
      have hN : (nmsAt ts l).length = l.length := by rw [nmsAt, List.length_map]
      have hpos : 0 < l.length := List.length_pos_iff.2 HNE.out
      rcases ho.2 with ⟨_, h0⟩ | ⟨g, cap, cur, h, _, hq, hcp, _, _, ht⟩
      · omega
      · injection h with h1 _ h3
        subst h1 h3
        have HJ := Lib.hid (joinS_is (g := g) (n := l.length) (c := c3) (xs := nmsAt ts l) (w := wr) (s := 44) (fun j x hx => by
          rw [cellH hq]
          have h3 : ((nmsAt ts l).map Value.string)[j]? = some (.string x) := by rw [List.getElem?_map, hx]; rfl
          rw [← ht, List.getElem?_take] at h3
          split at h3
          · simpa using h3
          · exact absurd h3 (by simp)) hN (fun e => by rw [e] at hN; simp at hN; omega) hcp (fun x hx => by
            obtain ⟨j, hj, rfl⟩ := List.mem_map.1 hx
            have := H1.out j hj
            rw [List.getD_eq_getElem?_getD, List.getElem?_map, List.getElem?_eq_getElem this]
            exact HS.out _ (List.getElem_mem this)) (by omega))
        clear ho hq ht hN hpos
        go_wp2_with fail
        refine HJ.out.mono ?_
        rintro e w5 ⟨rfl, hb5⟩
        have HB5 := Lib.hid (below_step HB.out hb5)
        clear hb5
        go_wp2_with fail
        go_ret
        exact ⟨rfl, HB5.out⟩
end Go.Proofs.YtcfnmjhelhdobaaGreatDoor
