/-
  The program's Read of votes; its Write and Read are what GateWrites asks. Conditions: what the library's variables hold, and sizes.
-/
import Derived.Test.YthmjeibanofliaaDoorGtWr
namespace Go.Proofs.YthmjeibanofliaaDoor
open Go.RowKit

def noI (no : Bool) : Int := if no then 1 else 0
theorem bl_votX (yes : List Int) (no : Bool) : bl (votX yes no) = numT (yes.length : Int) ++ (yes ++ [noI no]).flatMap numT := by
  unfold votX votL
  rw [intsX_bl, List.flatMap_cons]
  rfl
theorem numX_front {S T : ByteArray} {n : Int} {l : List UInt8} (h : bl S = numT n ++ l) (hl : l = bl T) : S = numX n ++ T := by
  apply bl_inj
  rw [bl_append, bl_numX, h, hl]
theorem ofL_len12 (l : List UInt8) : bl (ofL l) = l := bl_ofL l
/-- Where Read is: how many there are, those read, what the next one must not be below; what is left. -/
structure RvP (S : ByteArray) (cnt : Int) (S' : ByteArray) (b : Bool) (L : List Int) (m : Int) : Prop where
  mb : 0 ≤ m ∧ m ≤ 12
  cb : 0 ≤ cnt ∧ cnt ≤ 12
  sz : S'.size ≤ S.size
  yes : b = false → RisL L ∧ LeastAt L L.length m ∧ bl S = numT cnt ++ (L.flatMap numT ++ bl S')
  full : ∀ ys no T, RisL ys → S = votX ys no ++ T → (ys.length : Int) = cnt ∧ b = false ∧ L = ys.take L.length ∧ bl S' = (ys.drop L.length ++ [noI no]).flatMap numT ++ bl T
theorem RvP.start {S S' : ByteArray} {b' : Bool} {v : Int} (h : Rd1 S false 0 12 v S' b') : RvP S v S' b' [] 0 := by
  refine ⟨by omega, ?_, h.size, fun hb => ⟨RisL.nil, .inl ⟨rfl, rfl⟩, ?_⟩, fun ys no T hr hS => ?_⟩
  · cases b' with
    | true => have := h.bad rfl; omega
    | false => have := h.yes rfl; omega
  · rw [(h.yes hb).2.2.2, bl_append, bl_numX]
    rfl
  · have hlen := hr.len
    have hS2 : S = numX (ys.length : Int) ++ ofL ((ys ++ [noI no]).flatMap numT ++ bl T) := by
      refine numX_front (l := (ys ++ [noI no]).flatMap numT ++ bl T) ?_ (bl_ofL _).symm
      rw [hS, bl_append, bl_votX, List.append_assoc]
    have hb := h.full _ _ rfl (by omega) (by omega) (by omega) (by omega) hS2
    obtain ⟨e1, e2⟩ := h.same hb hS2
    exact ⟨e1.symm, hb, rfl, by rw [e2, bl_ofL]; rfl⟩
theorem least_app {L : List Int} {m x : Int} (h : LeastAt L L.length m) : LeastAt (L ++ [x]) L.length m := by
  rcases h with ⟨h1, h2⟩ | ⟨j, y, h1, h2, h3⟩
  · exact .inl ⟨h1, h2⟩
  · exact .inr ⟨j, y, h1, by rw [List.getElem?_append_left (by omega)]; exact h2, h3⟩
theorem RvP.next {S S' S2 : ByteArray} {b b2 : Bool} {cnt m x : Int} {L : List Int} (h : RvP S cnt S' b L m) (hl : (L.length : Int) < cnt) (hd : Rd1 S' b m 11 x S2 b2) : RvP S cnt S2 b2 (L ++ [x]) (x + 1) := by
  have hm := h.mb
  have hx : 0 ≤ x + 1 ∧ x + 1 ≤ 12 := by
    cases b2 with
    | true => have := hd.bad rfl; omega
    | false => have := hd.yes rfl; omega
  refine ⟨hx, h.cb, Nat.le_trans hd.size h.sz, fun hb2 => ?_, fun ys no T hr hS => ?_⟩
  · obtain ⟨hb, h1, h2, h3⟩ := hd.yes hb2
    obtain ⟨r1, r2, r3⟩ := h.yes hb
    have e1 : (L ++ [x]).take L.length = L := List.take_left
    have hk := (least_app (x := x) r2).yes (by rw [e1]; exact r1) (show (L ++ [x])[L.length]? = some x by simp) (by omega) (by omega)
    have e2 : (L ++ [x]).take (L.length + 1) = L ++ [x] := by rw [show L.length + 1 = (L ++ [x]).length by simp, List.take_length]
    rw [e2] at hk
    refine ⟨hk.1, by rw [List.length_append]; exact hk.2, ?_⟩
    rw [r3, h3, bl_append, bl_numX, List.flatMap_append, List.append_assoc]
    simp
  · obtain ⟨e1, hb, e2, e3⟩ := h.full ys no T hr hS
    have hlt : L.length < ys.length := by omega
    obtain ⟨y, hy⟩ : ∃ y, ys[L.length]? = some y := ⟨_, List.getElem?_eq_getElem hlt⟩
    have hdr : ys.drop L.length = y :: ys.drop (L.length + 1) := by
      rw [List.drop_eq_getElem_cons hlt]
      congr 1
      rw [List.getElem?_eq_getElem hlt] at hy
      exact Option.some.inj hy
    have hyr := hr.2 y (List.mem_of_getElem? hy)
    have hmy : m ≤ y := by
      rcases (h.yes hb).2.1 with ⟨_, rfl⟩ | ⟨j, z, hj, hz, rfl⟩
      · omega
      · have hz2 : ys[j]? = some z := by
          rw [e2, List.getElem?_take_of_lt (by omega)] at hz
          exact hz
        rw [hj] at hy
        have := risL_two hr hz2 hy
        omega
    have hS2 : S' = numX y ++ ofL ((ys.drop (L.length + 1) ++ [noI no]).flatMap numT ++ bl T) := by
      refine numX_front (l := (ys.drop (L.length + 1) ++ [noI no]).flatMap numT ++ bl T) ?_ (bl_ofL _).symm
      rw [e3, hdr, List.cons_append, List.flatMap_cons, List.append_assoc]
    have hb2 := hd.full _ _ hb hmy (by omega) (by omega) (by omega) hS2
    obtain ⟨f1, f2⟩ := hd.same hb2 hS2
    subst f1
    refine ⟨e1, hb2, ?_, ?_⟩
    · have ha : ys.take L.length = L := e2.symm
      rw [List.length_append]
      show L ++ [x] = ys.take (L.length + 1)
      rw [List.take_add_one, hy, ha]
      rfl
    · rw [f2, bl_ofL, List.length_append]
      rfl
theorem RvP.last {S S' S2 : ByteArray} {b b2 : Bool} {cnt m v : Int} {L : List Int} (h : RvP S cnt S' b L m) (hl : (L.length : Int) = cnt) (hd : Rd1 S' b 0 1 v S2 b2) :
    (b2 = true → VoSpec S [] false b2 S2) ∧ (b2 = false → VoSpec S L (v == 1) b2 S2) := by
  have hful : ∀ zs no T, rightV zs = true → S = votX zs no ++ T → b2 = false := fun zs no T hz hS => by
    obtain ⟨e1, hb, e2, e3⟩ := h.full zs no T (rightV_iff.1 hz) hS
    have hlen : zs.length = L.length := by omega
    have hS2 : S' = numX (noI no) ++ T := by
      refine numX_front (l := bl T) ?_ rfl
      rw [e3, ← hlen, List.drop_length]
      simp
    exact hd.full _ _ hb (by unfold noI; split <;> omega) (by unfold noI; split <;> omega) (by unfold noI; split <;> omega) (by unfold noI; split <;> omega) hS2
  refine ⟨fun h2 => ⟨fun _ => ⟨rfl, rfl⟩, (fun h3 => by rw [h2] at h3; cases h3), hful⟩, fun h2 => ⟨(fun h3 => by rw [h2] at h3; cases h3), fun _ => ?_, hful⟩⟩
  obtain ⟨hb, g1, g2, g3⟩ := hd.yes h2
  obtain ⟨r1, _, r3⟩ := h.yes hb
  refine ⟨rightV_iff.2 r1, ?_⟩
  apply bl_inj
  rw [bl_append, bl_votX, r3, g3, bl_append, bl_numX, hl, List.flatMap_append]
  have hv : noI (v == 1) = v := by
    unfold noI
    by_cases h1 : v = 1
    · subst h1; rfl
    · rw [if_neg (by rw [beq_iff_eq]; exact h1)]; omega
  rw [hv]
  simp
/-- What is held while votes are read: the reader, the result, what is read so far. -/
structure RvS (w : World) (R : Nat) (S' : ByteArray) (b : Bool) (v : Value) (no : Bool) (L : List Int) (W : World) : Prop where
  od : Only1 R w W
  rd : RdAt W R S' b
  lo : R < w.heap.size
  sz : w.heap.size + 2 ≤ W.heap.size
  rs : W.heap[w.heap.size]? = some (.cells #[.slice none 0 0, .bool false] 24 (0, 0))
  nx : W.heap[w.heap.size + 1]? = some (.cells #[v, .bool no] 24 (0, 0))
  ow : W.ownsRow (w.heap.size + 2) 3 1 v L.length (L.map (Value.int .i64))
  v0 : VarsAt w
  r0 : ∃ S0 b0, RdAt w R S0 b0
section
variable {w W V : World} {R : Nat} {S S' S2 : ByteArray} {b b2 : Bool} {v v2 : Value} {no : Bool} {L : List Int}
theorem RvS.start (hR : RdAt w R S b) (hV : VarsAt w) : RvS w R S b (.slice none 0 0) false [] ((w.alloc (.cells #[.slice none 0 0, .bool false] 24)).alloc (.cells #[.slice none 0 0, .bool false] 24)) := by
  have b1 := (Below.refl w.heap.size w).alloc (Nat.le_refl _) (.cells #[.slice none 0 0, .bool false] 24)
  have m1 := made_at w (.cells #[.slice none 0 0, .bool false] 24)
  have z1 : (w.alloc (.cells #[.slice none 0 0, .bool false] 24)).heap.size = w.heap.size + 1 := World.size_alloc _ _
  generalize (w.alloc (.cells #[.slice none 0 0, .bool false] 24)) = W1 at *
  have k2 := (Below.refl W1.heap.size W1).alloc (Nat.le_refl _) (.cells #[.slice none 0 0, .bool false] 24)
  have m2 := made_at W1 (.cells #[.slice none 0 0, .bool false] 24)
  have z2 : (W1.alloc (.cells #[.slice none 0 0, .bool false] 24)).heap.size = w.heap.size + 2 := by rw [World.size_alloc, z1]
  generalize (W1.alloc (.cells #[.slice none 0 0, .bool false] 24)) = W2 at *
  rw [z1] at m2
  have hb := below_step b1 k2
  exact ⟨.of_below hb, hR.below hb, hR.low, by omega, later_at k2 m1, m2, World.ownsRow_nil _ _ _ _, hV, _, _, hR⟩
theorem RvS.only (h : RvS w R S' b v no L W) (hr : RdAt V R S2 b2) (ho : Only1 R W V) : RvS w R S2 b2 v no L V := by
  have h1 := h.lo
  exact ⟨h.od.trans ho, hr, h1, Nat.le_trans h.sz ho.size, ho.at h.rs (by omega), ho.at h.nx (by omega), own_frame h.ow fun q cur hq hc => ho.block q (Array.getElem?_eq_some_iff.1 hc).1 (by omega), h.v0, h.r0⟩
theorem RvS.ve (h : RvS w R S' b v no L W) : VarsAt W := by
  obtain ⟨_, _, hr⟩ := h.r0
  exact h.v0.rd hr h.od
theorem RvS.later (h : RvS w R S' b v no L W) (hb : Below W.heap.size W V) : RvS w R S' b v no L V := h.only (h.rd.below hb) (.of_below hb)
theorem RvS.cells (h : RvS w R S' b v no L W) : W.cell? ⟨w.heap.size + 1, 0, none⟩ = some v ∧ W.cell? ⟨w.heap.size + 1, 1, none⟩ = some (.bool no) ∧ W.frozen? ⟨w.heap.size + 1, 0, none⟩ = false ∧ W.frozen? ⟨w.heap.size + 1, 1, none⟩ = false :=
  ⟨by rw [cellH h.nx]; rfl, by rw [cellH h.nx]; rfl, freeH h.nx 0, freeH h.nx 1⟩
theorem set12 {W : World} {B q i : Nat} {x : Value} (hq : q ≠ B) : (W.setCell ⟨B, i, none⟩ x).heap[q]? = W.heap[q]? := Below.heap_setCell W ⟨B, i, none⟩ x q (by simpa using hq)
/-- One more is put behind them. -/
theorem RvS.put {x : Int} {V : World} (h : RvS w R S' b v no L W) (hown : V.ownsRow (w.heap.size + 2) 3 1 v2 (L ++ [x]).length ((L ++ [x]).map (Value.int .i64))) (hg : (W.alloc (.cells #[.int .i64 x] 3)).grownBy V v.ownBlock) :
    V.heap[w.heap.size + 1]? = some (.cells #[v, .bool no] 24 (0, 0)) ∧ RvS w R S' b v2 no (L ++ [x]) (V.setCell ⟨w.heap.size + 1, 0, none⟩ v2) := by
  have h1 := h.lo
  have hb : Below (w.heap.size + 2) W V := ((Below.refl (w.heap.size + 2) W).alloc h.sz _).grown hg (by have := h.sz; simp; omega) (fun q hq => (own_tag h.ow hq).1)
  have hk : ∀ q o, q < w.heap.size + 2 → W.heap[q]? = some o → V.heap[q]? = some o := fun q o hq ho => by rw [hb.block q hq]; exact ho
  have hn2 := hk _ _ (by omega) h.nx
  have hod : Only1 R w (V.setCell ⟨w.heap.size + 1, 0, none⟩ v2) := Only1.setNew ⟨hb.os.trans h.od.os, hb.tape.trans h.od.tape, hb.output.trans h.od.output, Nat.le_trans h.od.size hb.size, fun i hi hn => (hb.block i (by omega)).trans (h.od.block i hi hn)⟩ (Nat.le_succ _) v2
  refine ⟨hn2, hod, ?_, h1, ?_, ?_, ?_, ?_, h.v0, h.r0⟩
  · show _ = _
    rw [set12 (by omega)]
    exact hk _ _ (by omega) h.rd
  · have := hb.size
    have := h.sz
    simp
    omega
  · rw [set12 (by omega)]
    exact hk _ _ (by omega) h.rs
  · rw [row_set hn2]
    rfl
  · exact own_frame hown fun q _ hq _ => set12 (by omega)
theorem RvS.setNo (h : RvS w R S' b v no L W) (no' : Bool) : RvS w R S' b v no' L (W.setCell ⟨w.heap.size + 1, 1, none⟩ (.bool no')) := by
  have h1 := h.lo
  refine ⟨h.od.setNew (Nat.le_succ _) _, ?_, h1, by have := h.sz; simp; omega, ?_, ?_, ?_, h.v0, h.r0⟩
  · show _ = _
    rw [set12 (by omega)]
    exact h.rd
  · rw [set12 (by omega)]
    exact h.rs
  · rw [row_set h.nx]
    rfl
  · exact own_frame h.ow fun q _ hq _ => set12 (by omega)
/-- The result is laid. -/
theorem RvS.done {B : Option Addr} {d : Nat} {l : List Int} {n : Bool} (h : RvS w R S' b v no L W) (hB : IntsC W B d l) (hO : ∀ ad, B = some ad → w.heap.size + 2 ≤ ad.block) :
    let V := (W.setCell ⟨w.heap.size, 0, none⟩ (.slice B l.length d)).setCell ⟨w.heap.size, 1, none⟩ (.bool n)
    V.heap[w.heap.size]? = some (.cells #[.slice B l.length d, .bool n] 24 (0, 0)) ∧ IntsC V B d l ∧ RdAt V R S' b ∧ Only1 R w V := by
  have h1 := h.lo
  refine ⟨?_, hB.same fun ad e => ?_, ?_, (h.od.setNew (Nat.le_refl _) _).setNew (Nat.le_refl _) _⟩
  · rw [row_set (row_set h.rs)]
    rfl
  · have := hO ad e
    exact (set12 (by omega)).trans (set12 (by omega))
  · show _ = _
    rw [set12 (by omega), set12 (by omega)]
    exact h.rd
set_option maxHeartbeats 4000000 in
set_option maxRecDepth 100000 in
theorem gread_is (hR : RdAt w R S false) (hV : VarsAt w) (hS : S.size ≤ 1000000) :
    Calls Tryd.prog 8 #[.pointer (some ⟨R, 0, none⟩)] w fun e w' => ∃ B d ys n b S', e = .returned (.agg #[.slice B ys.length d, .bool n]) ∧ IntsC w' B d ys ∧ RdAt w' R S' b ∧ Only1 R w w' ∧ VoSpec S ys n b S' := by
  obtain ⟨i0, hi, hz0, hz1, hz2⟩ := info_all info_int
  have HSZ := Lib.hid hS
  have HS0 := Lib.hid (RvS.start hR hV)
  clear hR hV hS
  go_enter Tryd.func8, Tryd.ntmps8
  go_upto_region 2 with fail
  generalize hW0 : ((w.alloc (.cells #[.slice none 0 0, .bool false] 24)).alloc (.cells #[.slice none 0 0, .bool false] 24)) = W0 at *
  clear hW0
  go_wp2_with fail
  refine (int_step HS0.out.rd HS0.out.ve HSZ.out 0 12).mono ?_
  rintro e w1 ⟨cnt, S1, b1, rfl, hr1, ho1, hd1⟩
  have HS1 := Lib.hid (HS0.out.only hr1 ho1)
  have HP1 := Lib.hid (RvP.start hd1)
  have hcb := HP1.out.cb
  clear hr1 ho1 hd1 HS0
  go_wp2_with fail
  go_loopw [4, 8] (fun m i wr => ∃ (k : Nat) (mm : Int) (v : Value) (S' : ByteArray) (b : Bool) (L : List Int), m = .int .i64 mm ∧ i = .int .i64 k ∧ (k : Int) ≤ cnt ∧ L.length = k ∧ Hid (RvP S cnt S' b L mm) ∧ Hid (RvS w R S' b v false L wr)) (fun _ i _ => cnt.toNat - (intOf i).toNat)
  case atStart => exact ⟨0, 0, _, S1, b1, [], rfl, rfl, by omega, rfl, HP1, HS1⟩
  case round =>
    obtain ⟨k, mm, v, S', b, L, rfl, rfl, hk, rfl, HP, HS⟩ := hrel
    clear HP1 HS1
    by_cases hlt : (L.length : Int) < cnt
    · go_wp2_with fail
      refine (int_step HS.out.rd HS.out.ve (Nat.le_trans HP.out.sz HSZ.out) mm 11).mono ?_
      rintro e w2 ⟨x, S2, b2, rfl, hr2, ho2, hd2⟩
      have HS2 := Lib.hid (HS.out.only hr2 ho2)
      have HP2 := Lib.hid (HP.out.next (by omega) hd2)
      obtain ⟨hx0, hx1⟩ := HP2.out.mb
      clear hr2 ho2 hd2 HS HP
      obtain ⟨x0, x1, f0, f1⟩ := HS2.out.cells
      go_wp2_with (at_builtin; refine wpList_append_own _ rfl (.tmp 14) (.tmp 16) 22 rfl (w.heap.size + 2) 3 i0 _ 1 8 Tryd.underlying22 hi hz0 hz1 hz2 rfl (by omega) v L.length (L.map (Value.int .i64)) rfl (HS2.out.ow.alloc _) ⟨w2.heap.size, 0, none⟩ 1 1 [.int .i64 x] rfl rfl (one_cell_new w2 _ _) (by simp [Value.oneCell']) (by unfold maxLen; omega) (by omega) (by have := HS2.out.sz; simp; omega) ?_; intro v3 w3 hown3 hg3 _; obtain ⟨B2, b3, rfl, _, _⟩ := intsC_of_own (zs := L ++ [x]) (by simpa using hown3); obtain ⟨hn3, hS3⟩ := HS2.out.put (x := x) (by simpa using hown3) hg3; have HS3 := Lib.hid hS3; have x4 := cellH hn3 0; have f4 := freeH hn3 0; simp at x4; clear hS3 hown3 hg3 hn3 x0 x1 f0 f1)
      go_roundw
      case rel => exact ⟨L.length + 1, x + 1, _, S2, b2, L ++ [x], rfl, by go_num, by omega, by simp, HP2, HS3⟩
      case measure => simp [intOf]; omega
    · have hlen : (L.length : Int) = cnt := by omega
      go_wp2_with fail
      refine (int_step HS.out.rd HS.out.ve (Nat.le_trans HP.out.sz HSZ.out) 0 1).mono ?_
      rintro e w2 ⟨x, S2, b2, rfl, hr2, ho2, hd2⟩
      have HS2 := Lib.hid (HS.out.only hr2 ho2)
      have HV2 := Lib.hid (HP.out.last hlen hd2)
      clear hr2 ho2 hd2 HS HP
      obtain ⟨x0, x1, f0, f1⟩ := HS2.out.cells
      obtain ⟨nn, hnn⟩ : ∃ nn, nn = (x == 1) := ⟨_, rfl⟩
      have n1 : (x == 1) = nn := hnn.symm
      rw [n1] at HV2
      have HS3 := Lib.hid (HS2.out.setNo nn)
      clear hnn HS2
      go_wp2_with fail
      refine (rd_ok HS3.out.rd).mono ?_
      rintro e w4 ⟨rfl, hb4⟩
      have HS4 := Lib.hid (HS3.out.later hb4)
      clear hb4 HS3 x0 x1 f0 f1
      obtain ⟨x0, x1, f0, f1⟩ := HS4.out.cells
      have y0 := cellH HS4.out.rs 0
      have y1 := cellH HS4.out.rs 1
      have g0 := freeH HS4.out.rs
      simp at y0 y1
      cases b2 with
      | true =>
        have HE := Lib.hid (HS4.out.done (B := none) (d := 0) (l := []) (n := false) (IntsC.none_ _) (fun _ h => by cases h))
        go_wp2_with fail
        exact bodyPost_ret (results_cell_row (fn := Tryd.f8) rfl _ _ w.heap.size 24 #[.slice none 0 0, .bool false] (0, 0) _ rfl HE.out.1 Tryd.underlying24 rfl info_vote) rfl ⟨none, 0, [], false, true, S2, rfl, HE.out.2.1, HE.out.2.2.1, HE.out.2.2.2, HV2.out.1 (by first | rfl | trivial)⟩
      | false =>
        obtain ⟨B, d, rfl, hB, hO⟩ := intsC_of_own HS4.out.ow
        have HE := Lib.hid (HS4.out.done (n := nn) hB hO)
        clear hB hO
        go_wp2_with fail
        exact bodyPost_ret (results_cell_row (fn := Tryd.f8) rfl _ _ w.heap.size 24 #[.slice B L.length d, .bool nn] (0, 0) _ rfl HE.out.1 Tryd.underlying24 rfl info_vote) rfl ⟨B, d, L, nn, false, S2, rfl, HE.out.2.1, HE.out.2.2.1, HE.out.2.2.2, HV2.out.2 (by first | rfl | trivial)⟩
end
theorem cell_low12 {w : World} {A : Option Addr} {c : Nat} {yes : List Int} (h : IntsC w A c yes) : 0 < yes.length → ∀ ad, A = some ad → ad.block < w.heap.size := fun hl ad e => by
  obtain ⟨ad', e', hc⟩ := h.at_ hl
  obtain rfl := Option.some.inj (e'.symm.trans e)
  have h2 := block_lt_of_cell (hc 0 hl)
  rwa [add_block] at h2
theorem gt_rw : GtRW where
  write := fun no hw hl hm hA hr hn hT => gwrite_is no hw hl (hA.at_.later hl) (fun hn ad e => .inl (cell_low12 hA hn ad e)) hr hn (by omega)
  read := fun hR hV hS => gread_is hR hV hS
end Go.Proofs.YthmjeibanofliaaDoor
