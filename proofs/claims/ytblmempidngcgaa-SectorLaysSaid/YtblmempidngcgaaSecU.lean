/-
  What the program's Print (package sector) answers. No conditions but the numbers' types.
-/
import Derived.Test.YtblmempidngcgaaSecT
import Derived.Test.YtblmempidngcgaaSecG
namespace Go.Proofs.Ytblmempidngcgaa
open Go.RowKit

theorem conv_row {w : World} {g cap : Nat} {s : ByteArray} {t : TypeId} {fr : Nat × Nat} (h : w.heap[g]? = some (.cells (bytesV s).toArray t fr)) (n : Nat) (hn : n = s.size) : (convert 52 9 (.slice (some ⟨g, 0, none⟩) n cap)).run Try.prog w = .ok (.string s) w := by
  subst hn
  have := run_convert_bytes_back (P := Try.prog) w 52 9 5 ⟨g, 0, none⟩ cap (bl s) Try.underlying52 Try.underlying5 Try.underlying9 (fun j hj => by
    rw [Addr.add_lit, Nat.zero_add, cellH h, List.getElem?_toArray, bytesV_bl, cellsB, List.getElem?_map, List.getElem?_eq_getElem hj]
    rfl)
  rw [bl_len] at this
  rw [this]
  exact congrArg (fun x => Result.ok (Value.string x) w) (ofL_bl s)

set_option maxHeartbeats 400000 in
set_option maxRecDepth 100000 in
theorem print_is (p : Pc) (hf : p.Fits) (w : World) :
    Calls Try.prog 8 #[pcV p] w fun e w' => e = .returned (.tuple #[.string (if rightP p then printB p else ⟨#[]⟩), .int .i64 (if rightP p then 0 else 1)]) ∧ Below w.heap.size w w' := by
  obtain ⟨X, hX⟩ : ∃ X : Value, X = .tuple #[.string (if rightP p then printB p else ⟨#[]⟩), .int .i64 (if rightP p then 0 else 1)] := ⟨_, rfl⟩
  have HX := Lib.hid hX
  rw [← hX]
  clear hX
  have RI := Lib.hid (fun w : World => right_is p.stamp p.gen p.no p.idx p.tot p.data w)
  change Hid (∀ w : World, Calls Try.prog 11 _ w fun e w' => e = .returned (.bool (rightP p)) ∧ Below w.heap.size w w') at RI
  obtain ⟨hz, hsz⟩ := zero_of_info info_blk
  obtain ⟨z, hzd⟩ : ∃ z, z = z64 := ⟨_, rfl⟩
  rw [← hzd] at hz
  have hzl : z.length = 64 := by rw [hzd]; rfl
  have hzn : z ≠ [] := by intro e; rw [e] at hzl; simp at hzl
  clear hzd
  go_enter Try.func8, Try.ntmps8
  go_wp2_with fail
  refine (RI.out _).mono ?_
  rintro e w1 ⟨rfl, hb1⟩
  have HB1 := Lib.hid (below_step ((Below.refl w.heap.size w).alloc (Nat.le_refl _) (.cells #[.int .u64 p.stamp, .int .i64 p.gen, .int .i64 p.no, .int .i64 p.idx, .int .i64 p.tot, .string p.data] 24)) hb1)
  have HZ1 := Lib.hid (show w1.heap[w.heap.size]? = some (.cells #[.int .u64 p.stamp, .int .i64 p.gen, .int .i64 p.no, .int .i64 p.idx, .int .i64 p.tot, .string p.data] 24 (0, 0)) from later_at hb1 (made_at _ _))
  clear hb1
  have z0 := cellH HZ1.out 0
  have z1 := cellH HZ1.out 1
  have z2 := cellH HZ1.out 2
  have z3 := cellH HZ1.out 3
  have z4 := cellH HZ1.out 4
  have z5 := cellH HZ1.out 5
  simp at z0 z1 z2 z3 z4 z5
  cases hr : rightP p
  · go_wp2_with fail
    refine bodyPost_ret (v := .tuple #[.string ⟨#[]⟩, .int .i64 1]) (by simp [results, Try.results8, go_sem]) rfl ⟨by rw [HX.out, hr]; rfl, HB1.out⟩
  · have hok := (rightP_iff p).1 hr
    have hps := print_size hok.d
    obtain ⟨bv, hbv⟩ : ∃ bv, bv = bytesV (printB p) := ⟨_, rfl⟩
    have hbl : bv.length = 64 := by rw [hbv, bytesV_len, hps]
    have hb1 : bv.toArray.all (·.oneCell') = true := by rw [hbv]; simp; exact bytesV_one _
    have PR := Lib.hid (framed_is p hok hf)
    go_wp2_with fail
    refine (PR.out _).mono ?_
    rintro e w2 ⟨rfl, hb2⟩
    have HB2 := Lib.hid (below_step HB1.out hb2)
    clear z0 z1 z2 z3 z4 z5 HZ1 HB1 hb2 PR RI
    rw [← hbv]
    have hst := run_storeCells_new (P := Try.prog) w2 54 z.toArray bv.toArray (by rw [hsz]; simp [hbl]) (by simp [hzl, hbl]) hb1
    simp at hst
    have hcv := conv_row (w := w2.alloc (.cells bv.toArray 54)) (g := w2.heap.size) (cap := 64) (s := printB p) (t := 54) (fr := (0, 0)) (by rw [← hbv]; exact made_at _ _) 64 hps.symm
    clear hb1 hbv
    go_wp2_with fail
    refine bodyPost_ret (v := .tuple #[.string (printB p), .int .i64 0]) (by simp [results, Try.results8, go_sem]) rfl ⟨by rw [HX.out, hr]; rfl, HB2.out.alloc HB2.out.size _⟩
end Go.Proofs.Ytblmempidngcgaa
