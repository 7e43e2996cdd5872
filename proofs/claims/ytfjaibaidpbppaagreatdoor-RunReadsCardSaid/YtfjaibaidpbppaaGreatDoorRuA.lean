/-
  The program's Read of votes; its Write and Read are what GateWrites asks. Conditions: what the library's variables hold, and sizes. How the landed Run lies in memory. No conditions.
-/
import Derived.Test.YtfjaibaidpbppaaGreatDoorGtWr
import Derived.Test.YtfjaibaidpbppaaGreatDoorOrdM
namespace Go.Proofs.YtfjaibaidpbppaaGreatDoor
open Go.RowKit

def noI (no : Bool) : Int := if no then 1 else 0
theorem bl_votX (yes : List Int) (no : Bool) : bl (votX yes no) = numT (yes.length : Int) ++ (yes ++ [noI no]).flatMap numT := by
  unfold votX votL
  rw [intsX_bl, List.flatMap_cons]
  rfl
theorem numX_front {S T : ByteArray} {n : Int} {l : List UInt8} (h : bl S = numT n ++ l) (hl : l = bl T) : S = numX n ++ T := by
  apply bl_inj
  rw [bl_append, bl_numX, h, hl]
theorem ofL_len12 (l : List UInt8) : bl (ofL l) = l := bl_ofL l
/-- Where Read is: how many there are, those read, what the next one must not be below; what is left. -/
structure RvP (b0 : Bool) (S : ByteArray) (cnt : Int) (S' : ByteArray) (b : Bool) (L : List Int) (m : Int) : Prop where
  mb : 0 ≤ m ∧ m ≤ 12
  cb : 0 ≤ cnt ∧ cnt ≤ 12
  sz : S'.size ≤ S.size
  yes : b = false → RisL L ∧ LeastAt L L.length m ∧ bl S = numT cnt ++ (L.flatMap numT ++ bl S')
  ok : b = false → b0 = false
  full : ∀ ys no T, b0 = false → RisL ys → S = votX ys no ++ T → (ys.length : Int) = cnt ∧ b = false ∧ L = ys.take L.length ∧ bl S' = (ys.drop L.length ++ [noI no]).flatMap numT ++ bl T
theorem RvP.start {b0 : Bool} {S S' : ByteArray} {b' : Bool} {v : Int} (h : Rd1 S b0 0 12 v S' b') : RvP b0 S v S' b' [] 0 := by
  refine ⟨by omega, ?_, h.size, fun hb => ⟨RisL.nil, .inl ⟨rfl, rfl⟩, ?_⟩, fun hb => (h.yes hb).1, fun ys no T hb0 hr hS => ?_⟩
  · cases b' with
    | true => have := h.bad rfl; omega
    | false => have := h.yes rfl; omega
  · rw [(h.yes hb).2.2.2, bl_append, bl_numX]
    rfl
  · have hlen := hr.len
    have hS2 : S = numX (ys.length : Int) ++ ofL ((ys ++ [noI no]).flatMap numT ++ bl T) := by
      refine numX_front (l := (ys ++ [noI no]).flatMap numT ++ bl T) ?_ (bl_ofL _).symm
      rw [hS, bl_append, bl_votX, List.append_assoc]
    have hb := h.full _ _ hb0 (by omega) (by omega) (by omega) (by omega) hS2
    obtain ⟨e1, e2⟩ := h.same hb hS2
    exact ⟨e1.symm, hb, rfl, by rw [e2, bl_ofL]; rfl⟩
theorem least_app {L : List Int} {m x : Int} (h : LeastAt L L.length m) : LeastAt (L ++ [x]) L.length m := by
  rcases h with ⟨h1, h2⟩ | ⟨j, y, h1, h2, h3⟩
  · exact .inl ⟨h1, h2⟩
  · exact .inr ⟨j, y, h1, by rw [List.getElem?_append_left (by omega)]; exact h2, h3⟩
theorem RvP.next {b0 : Bool} {S S' S2 : ByteArray} {b b2 : Bool} {cnt m x : Int} {L : List Int} (h : RvP b0 S cnt S' b L m) (hl : (L.length : Int) < cnt) (hd : Rd1 S' b m 11 x S2 b2) : RvP b0 S cnt S2 b2 (L ++ [x]) (x + 1) := by
  have hm := h.mb
  have hx : 0 ≤ x + 1 ∧ x + 1 ≤ 12 := by
    cases b2 with
    | true => have := hd.bad rfl; omega
    | false => have := hd.yes rfl; omega
  refine ⟨hx, h.cb, Nat.le_trans hd.size h.sz, fun hb2 => ?_, fun hb2 => h.ok (hd.yes hb2).1, fun ys no T hb0 hr hS => ?_⟩
  · obtain ⟨hb, h1, h2, h3⟩ := hd.yes hb2
    obtain ⟨r1, r2, r3⟩ := h.yes hb
    have e1 : (L ++ [x]).take L.length = L := List.take_left
    have hk := (least_app (x := x) r2).yes (by rw [e1]; exact r1) (show (L ++ [x])[L.length]? = some x by simp) (by omega) (by omega)
    have e2 : (L ++ [x]).take (L.length + 1) = L ++ [x] := by rw [show L.length + 1 = (L ++ [x]).length by simp, List.take_length]
    rw [e2] at hk
    refine ⟨hk.1, by rw [List.length_append]; exact hk.2, ?_⟩
    rw [r3, h3, bl_append, bl_numX, List.flatMap_append, List.append_assoc]
    simp
  · obtain ⟨e1, hb, e2, e3⟩ := h.full ys no T hb0 hr hS
    have hlt : L.length < ys.length := by omega
    obtain ⟨y, hy⟩ : ∃ y, ys[L.length]? = some y := ⟨_, List.getElem?_eq_getElem hlt⟩
    have hdr : ys.drop L.length = y :: ys.drop (L.length + 1) := by
      rw [List.drop_eq_getElem_cons hlt]
      congr 1
      rw [List.getElem?_eq_getElem hlt] at hy
      exact Option.some.inj hy
    have hyr := hr.2 y (List.mem_of_getElem? hy)
    have hmy : m ≤ y := by
      rcases (h.yes hb).2.1 with ⟨_, rfl⟩ | ⟨j, z, hj, hz, rfl⟩
      · omega
      · have hz2 : ys[j]? = some z := by
          rw [e2, List.getElem?_take_of_lt (by omega)] at hz
          exact hz
        rw [hj] at hy
        have := risL_two hr hz2 hy
        omega
    have hS2 : S' = numX y ++ ofL ((ys.drop (L.length + 1) ++ [noI no]).flatMap numT ++ bl T) := by
      refine numX_front (l := (ys.drop (L.length + 1) ++ [noI no]).flatMap numT ++ bl T) ?_ (bl_ofL _).symm
      rw [e3, hdr, List.cons_append, List.flatMap_cons, List.append_assoc]
    have hb2 := hd.full _ _ hb hmy (by omega) (by omega) (by omega) hS2
    obtain ⟨f1, f2⟩ := hd.same hb2 hS2
    subst f1
    refine ⟨e1, hb2, ?_, ?_⟩
    · have ha : ys.take L.length = L := e2.symm
      rw [List.length_append]
      show L ++ [x] = ys.take (L.length + 1)
      rw [List.take_add_one, hy, ha]
      rfl
    · rw [f2, bl_ofL, List.length_append]
      rfl
/-- What Read has read, of a reader that may have stopped ahead of it (b0). -/
structure VoAny (S : ByteArray) (b0 : Bool) (ys : List Int) (n b : Bool) (S' : ByteArray) : Prop where
  bad : b = true → ys = [] ∧ n = false
  yes : b = false → b0 = false ∧ rightV ys = true ∧ S = votX ys n ++ S'
  full : ∀ zs m T, b0 = false → rightV zs = true → S = votX zs m ++ T → b = false
  size : S'.size ≤ S.size
theorem VoAny.spec {S S' : ByteArray} {ys : List Int} {n b : Bool} (h : VoAny S false ys n b S') : VoSpec S ys n b S' := ⟨h.bad, fun hb => (h.yes hb).2, fun zs m T => h.full zs m T rfl⟩
theorem RvP.last {b0 : Bool} {S S' S2 : ByteArray} {b b2 : Bool} {cnt m v : Int} {L : List Int} (h : RvP b0 S cnt S' b L m) (hl : (L.length : Int) = cnt) (hd : Rd1 S' b 0 1 v S2 b2) :
    (b2 = true → VoAny S b0 [] false b2 S2) ∧ (b2 = false → VoAny S b0 L (v == 1) b2 S2) := by
  have hful : ∀ zs no T, b0 = false → rightV zs = true → S = votX zs no ++ T → b2 = false := fun zs no T hb0 hz hS => by
    obtain ⟨e1, hb, e2, e3⟩ := h.full zs no T hb0 (rightV_iff.1 hz) hS
    have hlen : zs.length = L.length := by omega
    have hS2 : S' = numX (noI no) ++ T := by
      refine numX_front (l := bl T) ?_ rfl
      rw [e3, ← hlen, List.drop_length]
      simp
    exact hd.full _ _ hb (by unfold noI; split <;> omega) (by unfold noI; split <;> omega) (by unfold noI; split <;> omega) (by unfold noI; split <;> omega) hS2
  refine ⟨fun h2 => ⟨fun _ => ⟨rfl, rfl⟩, (fun h3 => by rw [h2] at h3; cases h3), hful, Nat.le_trans hd.size h.sz⟩, fun h2 => ⟨(fun h3 => by rw [h2] at h3; cases h3), fun _ => ?_, hful, Nat.le_trans hd.size h.sz⟩⟩
  obtain ⟨hb, g1, g2, g3⟩ := hd.yes h2
  obtain ⟨r1, _, r3⟩ := h.yes hb
  refine ⟨h.ok hb, rightV_iff.2 r1, ?_⟩
  apply bl_inj
  rw [bl_append, bl_votX, r3, g3, bl_append, bl_numX, hl, List.flatMap_append]
  have hv : noI (v == 1) = v := by
    unfold noI
    by_cases h1 : v = 1
    · subst h1; rfl
    · rw [if_neg (by rw [beq_iff_eq]; exact h1)]; omega
  rw [hv]
  simp
/-- What is held while votes are read: the reader, the result, what is read so far. -/
structure RvS (w : World) (R : Nat) (S' : ByteArray) (b : Bool) (v : Value) (no : Bool) (L : List Int) (W : World) : Prop where
  od : Only1 R w W
  rd : RdAt W R S' b
  lo : R < w.heap.size
  sz : w.heap.size + 2 ≤ W.heap.size
  rs : W.heap[w.heap.size]? = some (.cells #[.slice none 0 0, .bool false] 75 (0, 0))
  nx : W.heap[w.heap.size + 1]? = some (.cells #[v, .bool no] 75 (0, 0))
  ow : W.ownsRow (w.heap.size + 2) 3 1 v L.length (L.map (Value.int .i64))
  v0 : VarsAt w
  r0 : ∃ S0 b0, RdAt w R S0 b0
section
variable {w W V : World} {R : Nat} {S S' S2 : ByteArray} {b b2 : Bool} {v v2 : Value} {no : Bool} {L : List Int}
theorem RvS.start (hR : RdAt w R S b) (hV : VarsAt w) : RvS w R S b (.slice none 0 0) false [] ((w.alloc (.cells #[.slice none 0 0, .bool false] 75)).alloc (.cells #[.slice none 0 0, .bool false] 75)) := by
  have b1 := (Below.refl w.heap.size w).alloc (Nat.le_refl _) (.cells #[.slice none 0 0, .bool false] 75)
  have m1 := made_at w (.cells #[.slice none 0 0, .bool false] 75)
  have z1 : (w.alloc (.cells #[.slice none 0 0, .bool false] 75)).heap.size = w.heap.size + 1 := World.size_alloc _ _
  generalize (w.alloc (.cells #[.slice none 0 0, .bool false] 75)) = W1 at *
  have k2 := (Below.refl W1.heap.size W1).alloc (Nat.le_refl _) (.cells #[.slice none 0 0, .bool false] 75)
  have m2 := made_at W1 (.cells #[.slice none 0 0, .bool false] 75)
  have z2 : (W1.alloc (.cells #[.slice none 0 0, .bool false] 75)).heap.size = w.heap.size + 2 := by rw [World.size_alloc, z1]
  generalize (W1.alloc (.cells #[.slice none 0 0, .bool false] 75)) = W2 at *
  rw [z1] at m2
  have hb := below_step b1 k2
  exact ⟨.of_below hb, hR.below hb, hR.low, by omega, later_at k2 m1, m2, World.ownsRow_nil _ _ _ _, hV, _, _, hR⟩
theorem RvS.only (h : RvS w R S' b v no L W) (hr : RdAt V R S2 b2) (ho : Only1 R W V) : RvS w R S2 b2 v no L V := by
  have h1 := h.lo
  exact ⟨h.od.trans ho, hr, h1, Nat.le_trans h.sz ho.size, ho.at h.rs (by omega), ho.at h.nx (by omega), own_frame h.ow fun q cur hq hc => ho.block q (Array.getElem?_eq_some_iff.1 hc).1 (by omega), h.v0, h.r0⟩
theorem RvS.ve (h : RvS w R S' b v no L W) : VarsAt W := by
  obtain ⟨_, _, hr⟩ := h.r0
  exact h.v0.rd hr h.od
theorem RvS.later (h : RvS w R S' b v no L W) (hb : Below W.heap.size W V) : RvS w R S' b v no L V := h.only (h.rd.below hb) (.of_below hb)
theorem RvS.cells (h : RvS w R S' b v no L W) : W.cell? ⟨w.heap.size + 1, 0, none⟩ = some v ∧ W.cell? ⟨w.heap.size + 1, 1, none⟩ = some (.bool no) ∧ W.frozen? ⟨w.heap.size + 1, 0, none⟩ = false ∧ W.frozen? ⟨w.heap.size + 1, 1, none⟩ = false :=
  ⟨by rw [cellH h.nx]; rfl, by rw [cellH h.nx]; rfl, freeH h.nx 0, freeH h.nx 1⟩
theorem set12 {W : World} {B q i : Nat} {x : Value} (hq : q ≠ B) : (W.setCell ⟨B, i, none⟩ x).heap[q]? = W.heap[q]? := Below.heap_setCell W ⟨B, i, none⟩ x q (by simpa using hq)
/-- One more is put behind them. -/
theorem RvS.put {x : Int} {V : World} (h : RvS w R S' b v no L W) (hown : V.ownsRow (w.heap.size + 2) 3 1 v2 (L ++ [x]).length ((L ++ [x]).map (Value.int .i64))) (hg : (W.alloc (.cells #[.int .i64 x] 3)).grownBy V v.ownBlock) :
    V.heap[w.heap.size + 1]? = some (.cells #[v, .bool no] 75 (0, 0)) ∧ RvS w R S' b v2 no (L ++ [x]) (V.setCell ⟨w.heap.size + 1, 0, none⟩ v2) := by
  have h1 := h.lo
  have hb : Below (w.heap.size + 2) W V := ((Below.refl (w.heap.size + 2) W).alloc h.sz _).grown hg (by have := h.sz; simp; omega) (fun q hq => (own_tag h.ow hq).1)
  have hk : ∀ q o, q < w.heap.size + 2 → W.heap[q]? = some o → V.heap[q]? = some o := fun q o hq ho => by rw [hb.block q hq]; exact ho
  have hn2 := hk _ _ (by omega) h.nx
  have hod : Only1 R w (V.setCell ⟨w.heap.size + 1, 0, none⟩ v2) := Only1.setNew ⟨hb.os.trans h.od.os, hb.tape.trans h.od.tape, hb.output.trans h.od.output, Nat.le_trans h.od.size hb.size, fun i hi hn => (hb.block i (by omega)).trans (h.od.block i hi hn)⟩ (Nat.le_succ _) v2
  refine ⟨hn2, hod, ?_, h1, ?_, ?_, ?_, ?_, h.v0, h.r0⟩
  · show _ = _
    rw [set12 (by omega)]
    exact hk _ _ (by omega) h.rd
  · have := hb.size
    have := h.sz
    simp
    omega
  · rw [set12 (by omega)]
    exact hk _ _ (by omega) h.rs
  · rw [row_set hn2]
    rfl
  · exact own_frame hown fun q _ hq _ => set12 (by omega)
theorem RvS.setNo (h : RvS w R S' b v no L W) (no' : Bool) : RvS w R S' b v no' L (W.setCell ⟨w.heap.size + 1, 1, none⟩ (.bool no')) := by
  have h1 := h.lo
  refine ⟨h.od.setNew (Nat.le_succ _) _, ?_, h1, by have := h.sz; simp; omega, ?_, ?_, ?_, h.v0, h.r0⟩
  · show _ = _
    rw [set12 (by omega)]
    exact h.rd
  · rw [set12 (by omega)]
    exact h.rs
  · rw [row_set h.nx]
    rfl
  · exact own_frame h.ow fun q _ hq _ => set12 (by omega)
/-- The result is laid. -/
theorem RvS.done {B : Option Addr} {d : Nat} {l : List Int} {n : Bool} (h : RvS w R S' b v no L W) (hB : IntsC W B d l) (hO : ∀ ad, B = some ad → w.heap.size + 2 ≤ ad.block) :
    let V := (W.setCell ⟨w.heap.size, 0, none⟩ (.slice B l.length d)).setCell ⟨w.heap.size, 1, none⟩ (.bool n)
    V.heap[w.heap.size]? = some (.cells #[.slice B l.length d, .bool n] 75 (0, 0)) ∧ IntsC V B d l ∧ RdAt V R S' b ∧ Only1 R w V := by
  have h1 := h.lo
  refine ⟨?_, hB.same fun ad e => ?_, ?_, (h.od.setNew (Nat.le_refl _) _).setNew (Nat.le_refl _) _⟩
  · rw [row_set (row_set h.rs)]
    rfl
  · have := hO ad e
    exact (set12 (by omega)).trans (set12 (by omega))
  · show _ = _
    rw [set12 (by omega), set12 (by omega)]
    exact h.rd
set_option maxHeartbeats 4000000 in
set_option maxRecDepth 100000 in
theorem gread_any (hR : RdAt w R S b) (hV : VarsAt w) (hS : S.size ≤ 1000000) :
    Calls Tryz.prog 51 #[.pointer (some ⟨R, 0, none⟩)] w fun e w' => ∃ B d ys n b' S', e = .returned (.agg #[.slice B ys.length d, .bool n]) ∧ IntsC w' B d ys ∧ RdAt w' R S' b' ∧ Only1 R w w' ∧ VoAny S b ys n b' S' ∧ ∀ ad, B = some ad → w.heap.size ≤ ad.block := by
  obtain ⟨i0, hi, hz0, hz1, hz2⟩ := info_all info_int
  have HSZ := Lib.hid hS
  have HS0 := Lib.hid (RvS.start hR hV)
  clear hR hV hS
  go_enter Tryz.func51, Tryz.ntmps51
  go_upto_region 2 with fail
  generalize hW0 : ((w.alloc (.cells #[.slice none 0 0, .bool false] 75)).alloc (.cells #[.slice none 0 0, .bool false] 75)) = W0 at *
  clear hW0
  go_wp2_with fail
  refine (int_step HS0.out.rd HS0.out.ve HSZ.out 0 12).mono ?_
  rintro e w1 ⟨cnt, S1, b1, rfl, hr1, ho1, hd1⟩
  have HS1 := Lib.hid (HS0.out.only hr1 ho1)
  have HP1 := Lib.hid (RvP.start hd1)
  have hcb := HP1.out.cb
  clear hr1 ho1 hd1 HS0
  go_wp2_with fail
  go_loopw [4, 8] (fun m i wr => ∃ (k : Nat) (mm : Int) (v : Value) (S' : ByteArray) (b' : Bool) (L : List Int), m = .int .i64 mm ∧ i = .int .i64 k ∧ (k : Int) ≤ cnt ∧ L.length = k ∧ Hid (RvP b S cnt S' b' L mm) ∧ Hid (RvS w R S' b' v false L wr)) (fun _ i _ => cnt.toNat - (intOf i).toNat)
  case atStart => exact ⟨0, 0, _, S1, b1, [], rfl, rfl, by omega, rfl, HP1, HS1⟩
  case round =>
    obtain ⟨k, mm, v, S', b', L, rfl, rfl, hk, rfl, HP, HS⟩ := hrel
    clear HP1 HS1
    by_cases hlt : (L.length : Int) < cnt
    · go_wp2_with fail
      refine (int_step HS.out.rd HS.out.ve (Nat.le_trans HP.out.sz HSZ.out) mm 11).mono ?_
      rintro e w2 ⟨x, S2, b2, rfl, hr2, ho2, hd2⟩
      have HS2 := Lib.hid (HS.out.only hr2 ho2)
      have HP2 := Lib.hid (HP.out.next (by omega) hd2)
      obtain ⟨hx0, hx1⟩ := HP2.out.mb
      clear hr2 ho2 hd2 HS HP
      obtain ⟨x0, x1, f0, f1⟩ := HS2.out.cells
      go_wp2_with (at_builtin; refine wpList_append_own _ rfl (.tmp 14) (.tmp 16) 60 rfl (w.heap.size + 2) 3 i0 _ 1 8 Tryz.underlying60 hi hz0 hz1 hz2 rfl (by omega) v L.length (L.map (Value.int .i64)) rfl (HS2.out.ow.alloc _) ⟨w2.heap.size, 0, none⟩ 1 1 [.int .i64 x] rfl rfl (one_cell_new w2 _ _) (by simp [Value.oneCell']) (by unfold maxLen; omega) (by omega) (by have := HS2.out.sz; simp; omega) ?_; intro v3 w3 hown3 hg3 _; obtain ⟨B2, b3, rfl, _, _⟩ := intsC_of_own (zs := L ++ [x]) (by simpa using hown3); obtain ⟨hn3, hS3⟩ := HS2.out.put (x := x) (by simpa using hown3) hg3; have HS3 := Lib.hid hS3; have x4 := cellH hn3 0; have f4 := freeH hn3 0; simp at x4; clear hS3 hown3 hg3 hn3 x0 x1 f0 f1)
      go_roundw
      case rel => exact ⟨L.length + 1, x + 1, _, S2, b2, L ++ [x], rfl, by go_num, by omega, by simp, HP2, HS3⟩
      case measure => simp [intOf]; omega
    · have hlen : (L.length : Int) = cnt := by omega
      go_wp2_with fail
      refine (int_step HS.out.rd HS.out.ve (Nat.le_trans HP.out.sz HSZ.out) 0 1).mono ?_
      rintro e w2 ⟨x, S2, b2, rfl, hr2, ho2, hd2⟩
      have HS2 := Lib.hid (HS.out.only hr2 ho2)
      have HV2 := Lib.hid (HP.out.last hlen hd2)
      clear hr2 ho2 hd2 HS HP
      obtain ⟨x0, x1, f0, f1⟩ := HS2.out.cells
      obtain ⟨nn, hnn⟩ : ∃ nn, nn = (x == 1) := ⟨_, rfl⟩
      have n1 : (x == 1) = nn := hnn.symm
      rw [n1] at HV2
      have HS3 := Lib.hid (HS2.out.setNo nn)
      clear hnn HS2
      go_wp2_with fail
      refine (rd_ok HS3.out.rd).mono ?_
      rintro e w4 ⟨rfl, hb4⟩
      have HS4 := Lib.hid (HS3.out.later hb4)
      clear hb4 HS3 x0 x1 f0 f1
      obtain ⟨x0, x1, f0, f1⟩ := HS4.out.cells
      have y0 := cellH HS4.out.rs 0
      have y1 := cellH HS4.out.rs 1
      have g0 := freeH HS4.out.rs
      simp at y0 y1
      cases b2 with
      | true =>
        have HE := Lib.hid (HS4.out.done (B := none) (d := 0) (l := []) (n := false) (IntsC.none_ _) (fun _ h => by cases h))
        go_wp2_with fail
        exact bodyPost_ret (results_cell_row (fn := Tryz.f51) rfl _ _ w.heap.size 75 #[.slice none 0 0, .bool false] (0, 0) _ rfl HE.out.1 Tryz.underlying75 rfl info_vote) rfl ⟨none, 0, [], false, true, S2, rfl, HE.out.2.1, HE.out.2.2.1, HE.out.2.2.2, HV2.out.1 (by first | rfl | trivial), (fun _ h => by cases h)⟩
      | false =>
        obtain ⟨B, d, rfl, hB, hO⟩ := intsC_of_own HS4.out.ow
        have HE := Lib.hid (HS4.out.done (n := nn) hB hO)
        have HO := Lib.hid hO
        clear hB hO
        go_wp2_with fail
        exact bodyPost_ret (results_cell_row (fn := Tryz.f51) rfl _ _ w.heap.size 75 #[.slice B L.length d, .bool nn] (0, 0) _ rfl HE.out.1 Tryz.underlying75 rfl info_vote) rfl ⟨B, d, L, nn, false, S2, rfl, HE.out.2.1, HE.out.2.2.1, HE.out.2.2.2, HV2.out.2 (by first | rfl | trivial), fun ad e => by have := HO.out ad e; omega⟩
theorem gread_is (hR : RdAt w R S false) (hV : VarsAt w) (hS : S.size ≤ 1000000) :
    Calls Tryz.prog 51 #[.pointer (some ⟨R, 0, none⟩)] w fun e w' => ∃ B d ys n b S', e = .returned (.agg #[.slice B ys.length d, .bool n]) ∧ IntsC w' B d ys ∧ RdAt w' R S' b ∧ Only1 R w w' ∧ VoSpec S ys n b S' :=
  (gread_any hR hV hS).mono fun _ _ ⟨B, d, ys, n, b, S', h1, h2, h3, h4, h5, _⟩ => ⟨B, d, ys, n, b, S', h1, h2, h3, h4, h5.spec⟩
end
theorem cell_low12 {w : World} {A : Option Addr} {c : Nat} {yes : List Int} (h : IntsC w A c yes) : 0 < yes.length → ∀ ad, A = some ad → ad.block < w.heap.size := fun hl ad e => by
  obtain ⟨ad', e', hc⟩ := h.at_ hl
  obtain rfl := Option.some.inj (e'.symm.trans e)
  have h2 := block_lt_of_cell (hc 0 hl)
  rwa [add_block] at h2
theorem gt_rw : GtRW where
  write := fun no hw hl hm hA hr hn hT => gwrite_is no hw hl (hA.at_.later hl) (fun hn ad e => .inl (cell_low12 hA hn ad e)) hr hn (by omega)
  read := fun hR hV hS => gread_is hR hV hS
end Go.Proofs.YtfjaibaidpbppaaGreatDoor

namespace Go.Proofs.YtfjaibaidpbppaaGreatDoor
open Go.RowKit

/-- A step's nine cells. -/
def stC (p : PlP) (v : Value) : List Value := [.int .i64 p.tr.st, .int .i64 p.tr.sn, .int .i64 p.tr.ms, .int .i64 p.tr.wk, .int .i64 p.tr.ls, .int .i64 p.tr.un, .string p.out, v, .bool p.no]
/-- The steps stand in the block B; vs are the slices of those who are for it. -/
def StAt (W : World) (B : Nat) (ps : List PlP) (vs : List Value) : Prop :=
  ∃ cs, W.heap[B]? = some (.cells cs 77 (0, 0)) ∧ ∀ (i : Nat) p v, ps[i]? = some p → vs[i]? = some v → ∀ (j : Nat) u, (stC p v)[j]? = some u → cs[i * 9 + j]? = some u
section
variable {W V : World} {B : Nat} {ps : List PlP} {vs : List Value}
theorem StAt.same (h : StAt W B ps vs) (hk : V.heap[B]? = W.heap[B]?) : StAt V B ps vs := by
  obtain ⟨cs, h1, h2⟩ := h
  exact ⟨cs, hk.trans h1, h2⟩
theorem StAt.low (h : StAt W B ps vs) : B < W.heap.size := by
  obtain ⟨cs, h1, _⟩ := h
  exact (Array.getElem?_eq_some_iff.1 h1).1
theorem StAt.cell (h : StAt W B ps vs) {i j : Nat} {p : PlP} {v u : Value} (hp : ps[i]? = some p) (hv : vs[i]? = some v) (hu : (stC p v)[j]? = some u) : W.cell? ⟨B, i * 9 + j, none⟩ = some u := by
  obtain ⟨cs, h1, h2⟩ := h
  rw [cellH h1]
  exact h2 i p v hp hv j u hu
theorem StAt.free (h : StAt W B ps vs) (i : Nat) : W.frozen? ⟨B, i, none⟩ = false := by
  obtain ⟨cs, h1, _⟩ := h
  exact freeH h1 i
/-- One cell of one of them is another one. -/
theorem StAt.set (h : StAt W B ps vs) {k j : Nat} {p p' : PlP} {v v' u : Value} (hp : ps[k]? = some p) (hv : vs[k]? = some v) (hj : j < 9) (he : stC p' v' = (stC p v).set j u) : StAt (W.setCell ⟨B, k * 9 + j, none⟩ u) B (ps.set k p') (vs.set k v') := by
  obtain ⟨cs, h1, h2⟩ := h
  refine ⟨cs.setIfInBounds (k * 9 + j) u, row_set h1, fun i q x hq hx j' y hy => ?_⟩
  have hjl : j' < 9 := by
    have := (List.getElem?_eq_some_iff.1 hy).1
    exact this
  have hold := h2 k p v hp hv j _ (List.getElem?_eq_getElem (show j < (stC p v).length from hj))
  have hlt := (Array.getElem?_eq_some_iff.1 hold).1
  by_cases hik : i = k
  · subst hik
    rw [List.getElem?_set_self (List.getElem?_eq_some_iff.1 hp).1] at hq
    rw [List.getElem?_set_self (List.getElem?_eq_some_iff.1 hv).1] at hx
    injection hq with hq
    injection hx with hx
    subst hq hx
    rw [he] at hy
    by_cases hjj : j' = j
    · subst hjj
      rw [List.getElem?_set_self (show j' < (stC p v).length from hj)] at hy
      rw [Array.getElem?_setIfInBounds_self_of_lt hlt]
      exact hy
    · rw [List.getElem?_set_ne (fun e => hjj e.symm)] at hy
      rw [Array.getElem?_setIfInBounds_ne (by omega)]
      exact h2 i p v hp hv j' y hy
  · rw [List.getElem?_set_ne (fun e => hik e.symm)] at hq hx
    rw [Array.getElem?_setIfInBounds_ne (by omega)]
    exact h2 i q x hq hx j' y hy
theorem set_same {α : Type} {l : List α} {k : Nat} {v : α} (h : l[k]? = some v) : l.set k v = l := by
  obtain ⟨hk, rfl⟩ := List.getElem?_eq_some_iff.1 h
  exact List.set_getElem_self hk
theorem StAt.nxt {k j : Nat} {p0 p' : PlP} {v u : Value} (h : StAt W B (ps.set k p0) vs) (hk : k < ps.length) (hv : vs[k]? = some v) (hj : j < 9) (he : stC p' v = (stC p0 v).set j u) : StAt (W.setCell ⟨B, k * 9 + j, none⟩ u) B (ps.set k p') vs := by
  have h1 := h.set (p := p0) (p' := p') (v := v) (v' := v) (List.getElem?_set_self hk) hv hj he
  rwa [List.set_set, set_same hv] at h1
/-- A try is put in its place. -/
def set6 (W : World) (B o : Nat) (t : TrP) : World := (((((W.setCell ⟨B, o, none⟩ (.int .i64 t.st)).setCell ⟨B, o + 1, none⟩ (.int .i64 t.sn)).setCell ⟨B, o + 2, none⟩ (.int .i64 t.ms)).setCell ⟨B, o + 3, none⟩ (.int .i64 t.wk)).setCell ⟨B, o + 4, none⟩ (.int .i64 t.ls)).setCell ⟨B, o + 5, none⟩ (.int .i64 t.un)
theorem StAt.try6 (h : StAt W B ps vs) {k : Nat} {p : PlP} {v : Value} (hp : ps[k]? = some p) (hv : vs[k]? = some v) (t : TrP) : StAt (set6 W B (k * 9) t) B (ps.set k { p with tr := t }) vs := by
  have hk := (List.getElem?_eq_some_iff.1 hp).1
  have h0 : StAt W B (ps.set k p) vs := by rw [set_same hp]; exact h
  have h1 := h0.nxt (j := 0) (p' := { p with tr := ⟨t.st, p.tr.sn, p.tr.ms, p.tr.wk, p.tr.ls, p.tr.un⟩ }) hk hv (by omega) rfl
  have h2 := h1.nxt (j := 1) (p' := { p with tr := ⟨t.st, t.sn, p.tr.ms, p.tr.wk, p.tr.ls, p.tr.un⟩ }) hk hv (by omega) rfl
  have h3 := h2.nxt (j := 2) (p' := { p with tr := ⟨t.st, t.sn, t.ms, p.tr.wk, p.tr.ls, p.tr.un⟩ }) hk hv (by omega) rfl
  have h4 := h3.nxt (j := 3) (p' := { p with tr := ⟨t.st, t.sn, t.ms, t.wk, p.tr.ls, p.tr.un⟩ }) hk hv (by omega) rfl
  have h5 := h4.nxt (j := 4) (p' := { p with tr := ⟨t.st, t.sn, t.ms, t.wk, t.ls, p.tr.un⟩ }) hk hv (by omega) rfl
  exact h5.nxt (j := 5) (p' := { p with tr := t }) hk hv (by omega) rfl
theorem set6_other {i o : Nat} {t : TrP} (h : i ≠ B) : (set6 W B o t).heap[i]? = W.heap[i]? := by
  have h1 : ∀ (U : World) (o : Nat) (u : Value), (U.setCell ⟨B, o, none⟩ u).heap[i]? = U.heap[i]? := fun U o u => Below.heap_setCell U ⟨B, o, none⟩ u i h
  unfold set6
  rw [h1, h1, h1, h1, h1, h1]
theorem set6_size {o : Nat} {t : TrP} : (set6 W B o t).heap.size = W.heap.size := by
  unfold set6
  simp only [World.size_setCell]
theorem set6_rest {o : Nat} {t : TrP} : (set6 W B o t).os = W.os ∧ (set6 W B o t).tape = W.tape ∧ (set6 W B o t).output = W.output := by
  have h : Below 0 W (set6 W B o t) := by
    unfold set6
    exact ((((((Below.refl 0 W).setCell (p := ⟨B, o, none⟩) (Nat.zero_le _) _).setCell (p := ⟨B, o + 1, none⟩) (Nat.zero_le _) _).setCell (p := ⟨B, o + 2, none⟩) (Nat.zero_le _) _).setCell (p := ⟨B, o + 3, none⟩) (Nat.zero_le _) _).setCell (p := ⟨B, o + 4, none⟩) (Nat.zero_le _) _).setCell (p := ⟨B, o + 5, none⟩) (Nat.zero_le _) _
  exact ⟨h.os, h.tape, h.output⟩
/-- Only that block has turned. -/
theorem onlyO_set6 {M : List Nat} {o : Nat} {t : TrP} (h : B ∈ M) : OnlyO M W (set6 W B o t) :=
  ⟨set6_rest.1, set6_rest.2.1, set6_rest.2.2, by rw [set6_size]; exact Nat.le_refl _, fun i _ hn => set6_other (fun e => hn (by rw [e]; exact h))⟩
/-- Who is for it: a slice, of numbers in the blocks X. -/
def YesX (W : World) (X : List Nat) (v : Value) (l : List Int) : Prop := ∃ Y c, v = .slice Y l.length c ∧ IntsC W Y c l ∧ (0 < l.length → ∀ ad, Y = some ad → ad.block ∈ X)
theorem IntsC.sameX {A : Option Addr} {c : Nat} {l : List Int} (h : IntsC W A c l) (hk : 0 < l.length → ∀ ad, A = some ad → V.heap[ad.block]? = W.heap[ad.block]?) : IntsC V A c l := ⟨fun hn => by
  obtain ⟨ad, e, hc⟩ := h.at_ hn
  refine ⟨ad, e, fun i hi => ?_⟩
  rw [World.cell?_of_block (w := W) (w' := V) (a := ad.add i) (by rw [add_block]; exact hk hn ad e)]
  exact hc i hi, h.cap, h.nil⟩
theorem YesX.same {X X' : List Nat} {v : Value} {l : List Int} (h : YesX W X v l) (hk : ∀ i ∈ X, V.heap[i]? = W.heap[i]?) (hX : ∀ i ∈ X, i ∈ X') : YesX V X' v l := by
  obtain ⟨Y, c, e, h1, h2⟩ := h
  exact ⟨Y, c, e, h1.sameX (fun hn ad ha => hk _ (h2 hn ad ha)), fun hn ad ha => hX _ (h2 hn ad ha)⟩
/-- The tasks ts stand in the block g, all that they hold in the blocks X. -/
def TksX (W : World) (X : List Nat) (g : Nat) (ts : List TkP) : Prop := ∀ (i : Nat) t, ts[i]? = some t → ∃ B c, (∀ (j : Nat) (v : Value), (tkC t (.slice B t.after.length c))[j]? = some v → W.cell? ⟨g, i * 7 + j, none⟩ = some v) ∧ NatsAt W B t.after ∧ t.after.length ≤ c ∧ (0 < t.after.length → ∀ ad, B = some ad → ad.block ∈ X)
theorem add0 (g k : Nat) : (⟨g, 0, none⟩ : Addr).add k = ⟨g, k, none⟩ := by unfold Addr.add; split <;> simp_all
theorem NatsAt.same {A : Option Addr} {l : List Nat} (h : NatsAt W A l) (hk : 0 < l.length → ∀ ad, A = some ad → V.heap[ad.block]? = W.heap[ad.block]?) : NatsAt V A l := fun hn => by
  obtain ⟨ad, e, hc⟩ := h hn
  refine ⟨ad, e, fun i n hi => ?_⟩
  rw [World.cell?_of_block (w := W) (w' := V) (a := ad.add i) (by rw [add_block]; exact hk hn ad e)]
  exact hc i n hi
theorem TksX.same {X X' : List Nat} {g : Nat} {ts : List TkP} (h : TksX W X g ts) (hg : V.heap[g]? = W.heap[g]?) (hk : ∀ i ∈ X, V.heap[i]? = W.heap[i]?) (hX : ∀ i ∈ X, i ∈ X') : TksX V X' g ts := fun i t ht => by
  obtain ⟨A, c, h1, h2, h3, h4⟩ := h i t ht
  refine ⟨A, c, fun j v hj => ?_, h2.same (fun hn ad e => hk _ (h4 hn ad e)), h3, fun hn ad e => hX _ (h4 hn ad e)⟩
  rw [World.cell?_of_block (w := W) (w' := V) (a := ⟨g, i * 7 + j, none⟩) hg]
  exact h1 j v hj
theorem TksX.tks {X : List Nat} {g : Nat} {ts : List TkP} (h : TksX W X g ts) : TksAt W (some ⟨g, 0, none⟩) ts := fun _ => ⟨_, rfl, fun i t ht => by
  obtain ⟨A, c, h1, h2, h3, _⟩ := h i t ht
  exact ⟨A, c, fun j v hj => by rw [add0]; exact h1 j v hj, h2, h3⟩⟩
/-- A run: its row R, its steps' block B, its tasks' block g; vs are the slices of its votes. -/
structure RnC (W : World) (X : List Nat) (R B g c d : Nat) (z : RunP) (vs : List Value) : Prop where
  row : W.heap[R]? = some (.cells #[.string z.pn, .slice (some ⟨g, 0, none⟩) z.ts.length c, .slice (some ⟨B, 0, none⟩) z.ps.length d, .bool z.over] 70 (0, 0))
  steps : StAt W B z.ps vs
  len : vs.length = z.ps.length
  cap : z.ts.length ≤ c ∧ z.ps.length ≤ d
  votes : ∀ (i : Nat) p v, z.ps[i]? = some p → vs[i]? = some v → YesX W X v p.yes
  tasks : TksX W X g z.ts
  gx : g ∈ X
  xlow : ∀ i ∈ X, i < W.heap.size
  apart : R ≠ B ∧ R ∉ X ∧ B ∉ X
def rnAt : RnAt := fun W M X R z => ∃ B g c d vs, M = [R, B] ∧ RnC W X R B g c d z vs
end
section
variable {W V : World} {X X' : List Nat} {R B g c d : Nat} {z : RunP} {vs vs' : List Value}
theorem RnC.rlow (h : RnC W X R B g c d z vs) : R < W.heap.size := (Array.getElem?_eq_some_iff.1 h.row).1
theorem RnC.same (h : RnC W X R B g c d z vs) (hk : ∀ i, i = R ∨ i = B ∨ i ∈ X → V.heap[i]? = W.heap[i]?) : RnC V X R B g c d z vs := by
  have hx := fun i (hi : i ∈ X) => hk i (.inr (.inr hi))
  refine ⟨(hk R (.inl rfl)).trans h.row, h.steps.same (hk B (.inr (.inl rfl))), h.len, h.cap, fun i p v hp hv => (h.votes i p v hp hv).same hx (fun _ hi => hi), h.tasks.same (hx g h.gx) hx (fun _ hi => hi), h.gx, fun i hi => ?_, h.apart⟩
  have h1 := hx i hi
  have h2 := h.xlow i hi
  cases hh : V.heap[i]? with
  | some o => exact (Array.getElem?_eq_some_iff.1 hh).1
  | none =>
    rw [hh, Array.getElem?_eq_getElem h2] at h1
    cases h1
theorem RnC.later (h : RnC W X R B g c d z vs) (hb : Below W.heap.size W V) : RnC V X R B g c d z vs :=
  h.same fun i hi => hb.block i (by rcases hi with rfl | rfl | hi <;> first | exact h.rlow | exact h.steps.low | exact h.xlow i hi)
/-- Its steps are others. -/
theorem RnC.turn (h : RnC W X R B g c d z vs) {ps' : List PlP} (hst : StAt V B ps' vs') (hl : vs'.length = ps'.length) (hp : ps'.length = z.ps.length) (hk : ∀ i, i = R ∨ i ∈ X → V.heap[i]? = W.heap[i]?)
    (hX : ∀ i ∈ X, i ∈ X') (hN : ∀ i ∈ X', i ∈ X ∨ (i ≠ R ∧ i ≠ B)) (hlow : ∀ i ∈ X', i < V.heap.size) (hv : ∀ (i : Nat) p v, ps'[i]? = some p → vs'[i]? = some v → YesX V X' v p.yes) : RnC V X' R B g c d { z with ps := ps' } vs' := by
  have hx := fun i (hi : i ∈ X) => hk i (.inr hi)
  refine ⟨?_, hst, hl, ⟨h.cap.1, by show ps'.length ≤ d; rw [hp]; exact h.cap.2⟩, hv, h.tasks.same (hx g h.gx) hx hX, hX g h.gx, hlow, h.apart.1, fun hm => ?_, fun hm => ?_⟩
  · rw [hk R (.inl rfl), h.row]
    show _ = some (Obj.cells #[_, _, .slice _ ps'.length d, _] _ _)
    rw [hp]
  · rcases hN R hm with h1 | h1
    · exact h.apart.2.1 h1
    · exact h1.1 rfl
  · rcases hN B hm with h1 | h1
    · exact h.apart.2.2 h1
    · exact h1.2 rfl
/-- A try of its is another one. -/
theorem RnC.setTry (h : RnC W X R B g c d z vs) {k : Nat} {p : PlP} (hp : z.ps[k]? = some p) (t : TrP) : RnC (set6 W B (k * 9) t) X R B g c d (z.put k { p with tr := t }) vs := by
  have hk := (List.getElem?_eq_some_iff.1 hp).1
  have hv := List.getElem?_eq_getElem (l := vs) (i := k) (by rw [h.len]; exact hk)
  have hso := fun i (hi : i = R ∨ i ∈ X) => show (set6 W B (k * 9) t).heap[i]? = W.heap[i]? from set6_other (fun e => by
    rcases hi with h1 | h1
    · exact h.apart.1 (h1.symm.trans e)
    · exact h.apart.2.2 (e ▸ h1))
  refine h.turn (h.steps.try6 hp hv t) (by rw [List.length_set]; exact h.len) (by rw [List.length_set]) hso (fun _ hi => hi) (fun _ hi => .inl hi) (fun i hi => by rw [set6_size]; exact h.xlow i hi) (fun i q v hq hv2 => ?_)
  by_cases hik : i = k
  · subst hik
    rw [List.getElem?_set_self hk] at hq
    injection hq with hq
    subst hq
    exact (h.votes i p v hp hv2).same (fun j hj => hso j (.inr hj)) (fun _ hi => hi)
  · rw [List.getElem?_set_ne (fun e => hik e.symm)] at hq
    exact (h.votes i q v hq hv2).same (fun j hj => hso j (.inr hj)) (fun _ hi => hi)
theorem rnAt.keep {M : List Nat} {O : List Nat} (h : rnAt W M X R z) (ho : OnlyO O W V) (hd : ∀ i ∈ O, i ∉ M ∧ i ∉ X) : rnAt V M X R z := by
  obtain ⟨B, g, c, d, vs, rfl, h⟩ := h
  refine ⟨B, g, c, d, vs, rfl, h.same fun i hi => ho.block i ?_ (fun hm => ?_)⟩
  · rcases hi with rfl | rfl | hi
    · exact h.rlow
    · exact h.steps.low
    · exact h.xlow i hi
  · have := hd i hm
    rcases hi with rfl | rfl | hi
    · exact this.1 (by simp)
    · exact this.1 (by simp)
    · exact this.2 hi
theorem rnAt.low {M : List Nat} (h : rnAt W M X R z) : ∀ i, i ∈ M ∨ i ∈ X → i < W.heap.size := by
  obtain ⟨B, g, c, d, vs, rfl, h⟩ := h
  rintro i (hi | hi)
  · simp at hi
    rcases hi with rfl | rfl
    · exact h.rlow
    · exact h.steps.low
  · exact h.xlow i hi
theorem rnAt.apart {M : List Nat} (h : rnAt W M X R z) : ∀ i ∈ M, i ∉ X := by
  obtain ⟨B, g, c, d, vs, rfl, h⟩ := h
  intro i hi
  simp at hi
  rcases hi with rfl | rfl
  · exact h.apart.2.1
  · exact h.apart.2.2
/-- The row's cells. -/
theorem RnC.cells (h : RnC W X R B g c d z vs) : W.cell? ⟨R, 0, none⟩ = some (.string z.pn) ∧ W.cell? ⟨R, 1, none⟩ = some (.slice (some ⟨g, 0, none⟩) z.ts.length c) ∧ W.cell? ⟨R, 2, none⟩ = some (.slice (some ⟨B, 0, none⟩) z.ps.length d) ∧ W.cell? ⟨R, 3, none⟩ = some (.bool z.over) :=
  ⟨by rw [cellH h.row]; rfl, by rw [cellH h.row]; rfl, by rw [cellH h.row]; rfl, by rw [cellH h.row]; rfl⟩
/-- The cells of the step at place k. -/
theorem RnC.step (h : RnC W X R B g c d z vs) {k : Nat} {p : PlP} (hp : z.ps[k]? = some p) : ∃ Y e, vs[k]? = some (.slice Y p.yes.length e) ∧ IntsC W Y e p.yes ∧ (0 < p.yes.length → ∀ ad, Y = some ad → ad.block ∈ X) ∧ ∀ (j : Nat) u, (stC p (.slice Y p.yes.length e))[j]? = some u → W.cell? ⟨B, k * 9 + j, none⟩ = some u := by
  have hk := (List.getElem?_eq_some_iff.1 hp).1
  have hv := List.getElem?_eq_getElem (l := vs) (i := k) (by rw [h.len]; exact hk)
  obtain ⟨Y, e, he, h1, h2⟩ := h.votes k p _ hp hv
  rw [he] at hv
  exact ⟨Y, e, hv, h1, h2, fun j u hu => h.steps.cell hp hv hu⟩
/-- The cells of the task at place k. -/
theorem RnC.task (h : RnC W X R B g c d z vs) {k : Nat} {t : TkP} (ht : z.ts[k]? = some t) : ∃ A e, (∀ (j : Nat) u, (tkC t (.slice A t.after.length e))[j]? = some u → W.cell? ⟨g, k * 7 + j, none⟩ = some u) ∧ NatsAt W A t.after ∧ t.after.length ≤ e ∧ (0 < t.after.length → ∀ ad, A = some ad → ad.block ∈ X) := by
  obtain ⟨A, e, h1, h2, h3, h4⟩ := h.tasks k t ht
  exact ⟨A, e, h1, h2, h3, h4⟩
end
end Go.Proofs.YtfjaibaidpbppaaGreatDoor
