/-
  What the program's disk (package disk) does where a write is put into its cache. No conditions but how it lies in memory.
-/
import Derived.Test.YtbdgmddlghhkjaaDiskK
import Derived.Deep.WholeRow
import Derived.Outline
namespace Go.Proofs.Ytbdgmddlghhkjaa
open Go.RowKit

theorem wpList_copy_str {P : Program} {w0 : World} {ops : Array Oper} {rest : List Oper} {o : Oper} {a : Act} {Q : Exit → Act → World → Prop} (hgd : o.guard = none) (d s : Operand) (dT sT : TypeId)
    (ho : o.op = .call { callee := .builtin .copy, args := #[d, s], argTypes := #[dT, sT] }) (elem : TypeId) (hu : P.underlying dT = some (.slice elem)) (hsz : (P.info? elem).map (·.size) = some 1)
    (off dLen dCap : Nat) (x : ByteArray) (cur new : List Value) (t : TypeId) (hd : a.eval d = .slice (some ⟨w0.heap.size, off, none⟩) dLen dCap) (hs : a.eval s = .string x) (hle : x.size ≤ dLen) (hfit : off + x.size ≤ cur.length) (hnew : splice cur off (bytesV x) = new)
    (h : wpList P ops Q rest (a.put o.dst (goInt x.size)) (w0.alloc (.cells new.toArray t))) : wpList P ops Q (o :: rest) a (w0.alloc (.cells cur.toArray t)) := by
  refine wpList_plain hgd fun K hK => ?_
  have hrun := run_copy_str (P := P) (w0.alloc (.cells cur.toArray t)) dT sT o.type elem w0.heap.size off dLen dCap x cur.toArray t hu hsz (heap_alloc_last w0 _) hle (by simpa using hfit)
  rw [World.setRow_alloc_new, List.toList_toArray, hnew] at hrun
  unfold Oper.wp
  simp [execOp, ho, resolve, invoke, builtin, hd, hs, hrun, Result.andThen]
  exact hK _ _ h

def buildS (t : TypeId) (n : Nat) (p : Array (Nat × Value)) : Sem Value := Instr.buildSlice t n p
@[go_sem ↓] theorem loadS_write (v : Value) : Instr.loadAt 101 v = loadS 101 v := rfl
@[go_sem ↓] theorem buildS_write (n : Nat) (p : Array (Nat × Value)) : Instr.buildSlice 63 n p = buildS 63 n p := rfl
theorem fold_set (l : List Value) : ∀ (k : Nat) (zs : List Value), k + l.length ≤ zs.length → (l.zipIdx k).foldl (fun cs (x : Value × Nat) => cs.setIfInBounds x.2 x.1) zs.toArray = (zs.take k ++ l ++ zs.drop (k + l.length)).toArray := by
  induction l with
  | nil => intro k zs _; simp
  | cons v r ih =>
    intro k zs h
    rw [List.zipIdx_cons, List.foldl_cons]
    simp only [List.setIfInBounds_toArray]
    rw [ih (k + 1) (zs.set k v) (by simp at h ⊢; omega)]
    have e := list_seg_step zs k v r (by simpa using h)
    rw [e]
    rfl
theorem fill_one (f : Nat → Option (Nat × Nat)) (zs : Array Value) (cs : List Value) (h : f 0 = some (0, cs.length)) (hz : zs.size = cs.length) : Instr.fill f zs [(0, .agg cs.toArray)] = some cs.toArray := by
  have e := fold_set cs 0 zs.toList (by simp [hz])
  have hd : List.drop cs.length zs.toList = [] := List.drop_eq_nil_of_le (by simp [hz])
  simp [hd] at e
  simp [Instr.fill, h, Value.cells, hz]
  exact e
theorem cells_new (w : World) (news : List Value) (t : TypeId) : ∀ j u, news[j]? = some u → (w.alloc (.cells news.toArray t)).cell? ((⟨w.heap.size, 0, none⟩ : Addr).add j) = some u := by
  intro j u hu
  have hadd : (⟨w.heap.size, 0, none⟩ : Addr).add j = ⟨w.heap.size, j, none⟩ := by unfold Addr.add; split <;> simp_all
  rw [hadd, cell_of_row _ _ j news.toArray t (0, 0) (heap_alloc_last w _)]
  simpa using hu
theorem run_buildS {P : Program} {t e : TypeId} {i : TypeInfo} {z : Value} {cs : List Value} (hu : P.underlying t = some (.slice e)) (hi : P.info? e = some i) (hz : i.zero = some z) (hs : i.size = cs.length) (h0 : 0 < cs.length) (hm : cs.length ≤ 16777216) (w : World) :
    (buildS t 1 #[(0, .agg cs.toArray)]).run P w = .ok (.slice (some ⟨w.heap.size, 0, none⟩) 1 1) (w.alloc (.cells cs.toArray e)) := by
  have hs0 : ¬ cs.length = 0 := by omega
  have hne : cs ≠ [] := fun e => by simp [e] at h0
  simp [buildS, Instr.buildSlice, run_underlying hu, sizeOf, zeroValue, typeInfo, hi, hz, hs, hne, Result.andThen]
  rw [if_neg (by omega), fill_one _ _ cs (by simp) (by simp)]
  rfl

def wriZ : List Value := .int .i64 0 :: List.replicate 64 (.int .u8 0)
theorem info_wri : (Try.prog.info? 101).map (fun i => (i.zero, i.size)) = some (some (.agg wriZ.toArray), 65) := by kernel_rfl
theorem info_wri3 : (Try.prog.info? 101).map (fun i => (i.zero, i.size, i.bytes)) = some (some (.agg wriZ.toArray), 65, 72) := by kernel_rfl
theorem wriC_one (x : Int × ByteArray) : ∀ v ∈ wriC x, v.oneCell' = true := by
  intro v hv
  rcases List.mem_cons.1 hv with rfl | h
  · rfl
  · exact bytesV_one _ v h

section
variable {w : World} {base D : Nat} {st : Dk}
theorem DskB.app {S : Nat} {cs : Array Value} {cv v1 : Value} {secs : List (ByteArray × Int)} {cache : List (Int × ByteArray)} {o : Obj} {w1 : World} {x : Int × ByteArray} (h : DskB w base D S cs cv secs cache) (hg : (w.alloc o).grownBy w1 cv.ownBlock)
    (hown : w1.ownsRow base 101 65 v1 (cache.length + 1) (cache.flatMap wriC ++ wriC x)) : DskB w1 base D S cs v1 secs (cache ++ [x]) ∧ OnlyT base progT w w1 := by
  have ha := h.later ((Below.refl _ _).alloc (Nat.le_refl _) o)
  refine ⟨⟨?_, ?_, ?_, h.2.2.2⟩, (OnlyT.refl.alloc o).grown hg fun g e => ?_⟩
  · rw [hg.block D (Array.getElem?_eq_some_iff.1 ha.1).1 (own_ne_blk ha.2.2.1 ha.1 (by decide))]
    exact ha.1
  · rw [hg.block S (Array.getElem?_eq_some_iff.1 ha.2.1).1 (own_ne_blk ha.2.2.1 ha.2.1 (by decide))]
    exact ha.2.1
  · simpa using hown
  · obtain ⟨h1, cs, t, m, h2, rfl⟩ := own_row ha.2.2.1 g e
    exact ⟨h1, cs, _, m, h2, by decide⟩

/-- A write is put into the cache, before it is looked at whether the power is armed. -/
def pushS (st : Dk) (a : Int) (s : ByteArray) : Dk := { st with cache := st.cache ++ [(a, s)], writes := st.writes + 1 }
theorem SecOk.push {secs : List (ByteArray × Int)} (h : SecOk secs st) {i : Nat} {x : ByteArray × Int} (hx : secs[i]? = some x) (s : ByteArray) (hs : s.size = 64) : SecOk (secs.set i (x.1, (st.cache.length : Int) + 1)) (pushS st i s) := by
  have hi : i < secs.length := (List.getElem?_eq_some_iff.1 hx).1
  refine ⟨?_, fun j y hy => ?_, ?_⟩
  · rw [List.map_set]
    show _ = st.kept
    rw [← h.kept]
    refine List.ext_getElem? fun j => ?_
    rw [List.getElem?_set]
    split
    · rename_i e
      subst e
      have := (List.getElem?_eq_some_iff.1 hx).2
      simp [hi, this]
    · rfl
  · by_cases e : i = j
    · subst e
      rw [List.getElem?_set_self (by omega)] at hy
      obtain rfl := Option.some.inj hy
      exact LastOk.new _ _ _
    · rw [List.getElem?_set_ne e] at hy
      exact (h.last j y hy).snoc (by simp; omega)
  · have hl := h.len
    exact { h.ok with
      at_ := fun y hy => by
        rcases List.mem_append.1 hy with h' | h'
        · exact h.ok.at_ y h'
        · obtain rfl : y = ((i : Int), s) := by simpa using h'
          exact ⟨by simp, by simp only [pushS]; omega, hs⟩
      writes0 := by have := h.ok.writes0; simp only [pushS]; omega }

set_option maxHeartbeats 400000 in
set_option maxRecDepth 100000 in
theorem dput_is (h : DiskAt w base D st) (i : Nat) (s : ByteArray) (hi : i < st.kept.length) (hs64 : s.size = 64) (hn : st.cache.length < 1000000) (hw : st.writes ≤ 1000000) (hbs : base ≤ w.heap.size) :
    Calls Try.prog 62 #[.pointer (some ⟨D, 0, none⟩), .int .i64 i, .string s] w fun e w' => e = .returned (.tuple #[]) ∧ DiskAt w' base D (pushS st i s) ∧ OnlyT base progT w w' ∧ w'.cell? ⟨D, 4, none⟩ = w.cell? ⟨D, 4, none⟩ := by
  obtain ⟨S, cv, secs, b, hB, hs, hb⟩ := h
  have hO := Lib.hid hs
  have K4 := Lib.hid (hB.cell 4)
  have hB1 := Lib.hid (hB.later ((Below.refl _ _).alloc (Nat.le_refl _) (.cells (wriC (i, s)).toArray 101)))
  obtain ⟨B, cap, ecv⟩ := hB.lens
  subst ecv
  have k1 := hB1.out.cell 1
  have f1 := hB1.out.free 1
  simp at k1
  clear hB hs
  obtain ⟨hz, hsz⟩ := zero_of_info info_wri
  obtain ⟨i0, hi0, hz0, hz1, hz2⟩ := info_parts info_wri3
  have HOWN := Lib.hid (show (w.alloc (.cells (wriC (i, s)).toArray 101)).drew.ownsRow base 101 65 (.slice B st.cache.length cap) st.cache.length (st.cache.flatMap wriC) from hB1.out.2.2.1)
  have HLEN := Lib.hid (show (wriC (i, s)).length = 1 * 65 by simp [wriC_len (x := ((i : Int), s)) hs64])
  have hwsz3 : (Try.prog.info? 101).map (·.size) = some 65 := by rw [hi0]; simp [hz1]
  have HONE := Lib.hid (wriC_one ((i : Int), s))
  obtain ⟨wz, hwz⟩ : ∃ wz, wz = wriZ.toArray := ⟨_, rfl⟩
  rw [← hwz] at hz
  have hwsz : wz.size = 65 := by rw [hwz]; simp [wriZ]
  have hne : wz ≠ #[] := by rw [hwz]; simp [wriZ]
  obtain ⟨c1, hc1⟩ : ∃ c1 : List Value, c1 = .int .i64 i :: List.replicate 64 (.int .u8 0) := ⟨_, rfl⟩
  have hset : wz.setIfInBounds 0 (.int .i64 i) = c1.toArray := by rw [hwz, hc1]; rfl
  have hc1l : c1.length = 65 := by rw [hc1]; simp
  have hst := run_storeCells_new (P := Try.prog) w 101 wz c1.toArray (by rw [hsz]; simp [hc1l]) (by simp [hwsz, hc1l]) (by rw [hc1]; simp [Value.oneCell'])
  simp at hst
  have HNEW := Lib.hid (show splice c1 1 (bytesV s) = wriC (i, s) by
    have h65 : List.drop 65 c1 = [] := List.drop_eq_nil_of_le (by omega)
    rw [hc1] at h65 ⊢
    simp [splice, bytesV_len, hs64, wriC])
  clear hwz hsz hc1
  obtain ⟨cw, hcw⟩ : ∃ cw, cw = wriC (i, s) := ⟨_, rfl⟩
  rw [← hcw] at HNEW HOWN HLEN HONE hB1 k1 f1
  have hld : (loadS 101 (.pointer (some ⟨w.heap.size, 0, none⟩))).run Try.prog (w.alloc (.cells cw.toArray 101)).drew = .ok (.agg cw.toArray) (w.alloc (.cells cw.toArray 101)).drew :=
    run_loadS (g := w.heap.size) (t := 101) (fr := (0, 0)) (heap_alloc_last w _) Try.underlying101 rfl (by rw [hwsz3]; simp [HLEN.out])
  have hld2 : (loadS 101 (.pointer (some ⟨w.heap.size, 0, none⟩))).run Try.prog (w.alloc (.cells cw.toArray 101)) = .ok (.agg cw.toArray) (w.alloc (.cells cw.toArray 101)) :=
    run_loadS (g := w.heap.size) (t := 101) (fr := (0, 0)) (heap_alloc_last w _) Try.underlying101 rfl (by rw [hwsz3]; simp [HLEN.out])
  have hbs2 := run_buildS (P := Try.prog) (t := 63) (e := 101) (cs := cw) Try.underlying63 hi0 hz0 (by rw [hz1, HLEN.out]) (by rw [HLEN.out]; decide) (by rw [HLEN.out]; decide)
  have HNEWS := Lib.hid (cells_new (w.alloc (.cells cw.toArray 101)).drew cw 101)
  have k1b : ((w.alloc (.cells cw.toArray 101)).alloc (.cells cw.toArray 101)).cell? ⟨D, 1, none⟩ = some (.slice B st.cache.length cap) := cell_alloc k1
  have HCW := Lib.hid hcw
  clear hcw
  go_enter Try.func62, Try.ntmps62
  go_wp2_with (refine wpList_copy_str rfl (.tmp 10) (.tmp 11) 61 9 rfl 5 Try.underlying61 info_byte 1 64 64 s c1 cw 101 rfl rfl (by omega) (by omega) HNEW.out ?_)
  go_region_law (refine step_append_own _ rfl (.tmp 17) (.tmp 19) 63 rfl base 101 i0 _ 65 72 Try.underlying63 hi0 hz0 hz1 hz2 (by simp [Value.cells, wriZ]) (by omega) (.slice B st.cache.length cap) st.cache.length (st.cache.flatMap wriC) (by simp [Act.eval]) (HOWN.out.alloc _) ⟨(w.alloc (.cells cw.toArray 101)).drew.heap.size, 0, none⟩ 1 1 cw (by simp [Act.eval]) HLEN.out HNEWS.out HONE.out (by unfold maxLen; omega) (by omega) (by simp; omega) ?_; intro v2 w2 hown2 hg2 _; have HA := Lib.hid (DskB.app (x := ((i : Int), s)) (show DskB (w.alloc (.cells cw.toArray 101)).drew base D S _ (.slice B st.cache.length cap) secs st.cache from hB1.out) hg2 (by rw [← HCW.out]; exact hown2)); obtain ⟨B2, cap2, e2⟩ := HA.out.1.lens; rw [List.length_append] at e2; subst e2; clear hown2 hg2; have q1 := HA.out.1.cell 1; have q1f := HA.out.1.free 1; simp at q1)
  all_goals
    have HB4 := Lib.hid (HA.out.1.set 1 (.slice B2 (st.cache.length + 1) cap2))
    have HO4 := Lib.hid (((OnlyT.refl (base := base) (T := progT) (w := w)).trans (OnlyT.of_below ((Below.refl _ _).alloc (Nat.le_refl _) _))).trans ((OnlyT.of_below (Below.refl _ _).drew).trans (HA.out.2.setCell (i := 1) (v := .slice B2 (st.cache.length + 1) cap2) HA.out.1.1 (by decide) HA.out.1.2.2.2.1)))
    have m0 := HB4.out.cell 0
    have m1 := HB4.out.cell 1
    obtain ⟨x, hxs⟩ : ∃ x, secs[i]? = some x := ⟨_, List.getElem?_eq_getElem (by have := hO.out.len; omega)⟩
    obtain ⟨m2, m2f⟩ := HB4.out.sec_at hO.out.size hxs (j := 64) (by omega)
    obtain ⟨y2, hy2⟩ : ∃ y, (secC x)[64]? = some y := ⟨_, List.getElem?_eq_getElem (by rw [secC_len (hO.out.size x (List.mem_of_getElem? hxs))]; omega)⟩
    rw [hy2] at m2
    have i1 : (i : Int) < secs.length := by have := hO.out.len; omega
    simp at m0 m1
    clear q1 q1f k1 k1b f1 hld hld2 hbs2 hz hst hset hi0 hz0 hz1 hz2 hwsz hwsz3 hne hc1l
    go_wp2_with fail
    go_region
    have HB5 := Lib.hid (HB4.out.putLast hO.out.size hxs (st.cache.length + 1))
    have n2 := HB5.out.cell 2
    have n2f := HB5.out.free 2
    have w0 := hO.out.ok.writes0
    simp at n2
    clear m0 m1 m2 m2f
    go_wp2_with fail
    go_end0
    have HB6 := HB5.out.set 2 (.int .i64 (st.writes + 1))
    refine ⟨rfl, ⟨S, .slice B2 (st.cache.length + 1) cap2, secs.set i (x.1, (st.cache.length : Int) + 1), b, ?_, hO.out.push hxs s hs64, hb⟩, ?_, ?_⟩
    · simp [pushS] at HB6 ⊢
      exact HB6
    · exact ((HO4.out.setCell (i := i * 65 + 64) (v := .int .i64 (st.cache.length + 1)) HB4.out.2.1 (by decide) HB4.out.2.2.2.2).trans (OnlyT.of_below (Below.refl _ _).drew)).setCell (i := 2) (v := .int .i64 (st.writes + 1)) HB5.out.1 (by decide) HB5.out.2.2.2.1
    · have h4 := HB6.cell 4
      rw [K4.out]
      simp at h4 ⊢
      exact h4
end
end Go.Proofs.Ytbdgmddlghhkjaa
