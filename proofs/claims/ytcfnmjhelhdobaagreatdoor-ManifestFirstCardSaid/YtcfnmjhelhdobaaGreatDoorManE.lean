/-
  What the document's value (package lockageref08) answers of a pair, and leaves in the line. Conditions: a word of a million bytes at most, at a place below a million. What a pair is, and what lies in memory while a line is gone over. Conditions: a word of a million bytes at most, at a place below a million.
-/
import Derived.Test.YtcfnmjhelhdobaaGreatDoorManC
import Derived.BigQuiet
import Derived.Deep.QuietTactic
import Derived.Deep.RegionWith
namespace Go.Proofs.YtcfnmjhelhdobaaGreatDoor
open Go.RowKit

structure Only1 (R : Nat) (w w' : World) : Prop where
  os : w'.os = w.os
  tape : w'.tape = w.tape
  output : w'.output = w.output
  size : w.heap.size ≤ w'.heap.size
  block : ∀ i, i < w.heap.size → i ≠ R → w'.heap[i]? = w.heap[i]?
theorem Only1.of_below {R : Nat} {w w' : World} (h : Below w.heap.size w w') : Only1 R w w' := ⟨h.os, h.tape, h.output, h.size, fun i hi _ => h.block i hi⟩
theorem Only1.set {R i : Nat} {w a : World} (h : Only1 R w a) (v : Value) : Only1 R w (a.setCell ⟨R, i, none⟩ v) :=
  ⟨h.os, h.tape, h.output, by simpa using h.size, fun j hj hn => (Below.heap_setCell a ⟨R, i, none⟩ v j (by simpa using hn)).trans (h.block j hj hn)⟩
theorem Only1.below {R : Nat} {w a b : World} (h : Only1 R w a) (k : Below a.heap.size a b) : Only1 R w b :=
  ⟨k.os.trans h.os, k.tape.trans h.tape, k.output.trans h.output, Nat.le_trans h.size k.size, fun i hi hn => (k.block i (Nat.lt_of_lt_of_le hi h.size)).trans (h.block i hi hn)⟩

/-- A line in memory. -/
def lnC (x : LnP) (av : Value) : Array Value := #[.string x.name, .slice none 0 0, .int .i64 x.retry, .int .i64 x.time, .int .i64 x.need, .int .i64 x.lv, .int .u16 x.st, av]
structure LineAt (w : World) (X : Nat) (x : LnP) (av : Value) : Prop where
  row : w.heap[X]? = some (.cells (lnC x av) 62 (0, 0))
  aft : ∃ A c, av = .slice A x.after.length c ∧ WdsRow w A x.after
theorem LineAt.later {w w' : World} {X : Nat} {x : LnP} {av : Value} (h : LineAt w X x av) (hb : Below w.heap.size w w') : LineAt w' X x av := by
  obtain ⟨A, c, e, hA⟩ := h.aft
  exact ⟨later_at hb h.row, A, c, e, hA.later hb⟩
theorem WdsRow.setX {w : World} {A : Option Addr} {l : List Wd} {X i : Nat} {cs : Array Value} {m : Nat × Nat} {v : Value} (h : WdsRow w A l) (hX : w.heap[X]? = some (.cells cs 62 m)) : WdsRow (w.setCell ⟨X, i, none⟩ v) A l :=
  h.frame (fun g cur hg => Below.heap_setCell w ⟨X, i, none⟩ v g (by
    show g ≠ X
    rintro rfl
    rw [hX] at hg
    injection hg with hg
    injection hg with _ h2
    exact absurd h2 (by decide)))
/-- What value answers. -/
def ValOut (w : World) (X : Nat) (x : LnP) (r : FaP ⊕ LnP) (e : Ending) (w' : World) : Prop := Only1 X w w' ∧ match r with
  | .inl f => e = .returned (.tuple #[.int .i64 f.e, .int .i64 f.p]) ∧ ∃ av, LineAt w' X x av
  | .inr y => e = .returned (.tuple #[.int .i64 0, .int .i64 0]) ∧ ∃ av, LineAt w' X y av

section
variable {w : World} {X : Nat} {x : LnP} {av : Value}
set_option maxHeartbeats 1000000 in
set_option maxRecDepth 100000 in
theorem value_retry (h : LineAt w X x av) (t : ByteArray) (p : Nat) (ht : t.size ≤ 1000000) : Calls Tryz.prog 41 #[.pointer (some ⟨X, 0, none⟩), .string sRetry, .agg #[.string t, .int .i64 p]] w (ValOut w X x (match numP t 0 5 with
    | none => .inl ⟨16, p⟩
    | some n => .inr { x with retry := n })) := by
  obtain ⟨r, hr⟩ : ∃ r, r = numP t 0 5 := ⟨_, rfl⟩
  rw [← hr]
  have RN := Lib.hid (fun w : World => refnumber_is t 0 5 ht w)
  rw [← hr] at RN
  clear hr
  have l0 := (Below.refl w.heap.size w).alloc (Nat.le_refl _) (.cells #[.string t, .int .i64 p] 57)
  have HL := Lib.hid (h.later l0)
  have HO := Lib.hid (Only1.of_below (R := X) l0)
  clear l0
  go_enter Tryz.func41, Tryz.ntmps41
  go_wp2_with fail
  refine (RN.out _).mono ?_
  rintro e w1 ⟨rfl, rfl⟩
  cases r with
  | none =>
    dsimp only [numV]
    go_upto_region 23 with fail
    go_region
    go_wp2_with fail
    refine bodyPost_ret (v := .tuple #[.int .i64 16, .int .i64 p]) (by simp [results, Tryz.results41, go_sem]) rfl ⟨HO.out.below (Below.refl _ _).drew, rfl, av, HL.out.later (Below.refl _ _).drew⟩
  | some n =>
    dsimp only [numV]
    have x2 := cellH HL.out.row 2
    have xf := freeH HL.out.row
    simp [lnC] at x2
    go_wp2_with fail
    refine bodyPost_ret (v := .tuple #[.int .i64 0, .int .i64 0]) (by simp [results, Tryz.results41, go_sem]) rfl ⟨HO.out.set _, rfl, av, ?_⟩
    obtain ⟨A, c, e, hA⟩ := HL.out.aft
    exact ⟨(row_set HL.out.row).trans rfl, A, c, e, hA.setX HL.out.row⟩
set_option maxHeartbeats 1000000 in
set_option maxRecDepth 100000 in
theorem value_time (h : LineAt w X x av) (t : ByteArray) (p : Nat) (ht : t.size ≤ 1000000) : Calls Tryz.prog 41 #[.pointer (some ⟨X, 0, none⟩), .string sTime, .agg #[.string t, .int .i64 p]] w (ValOut w X x (match numP t 1 100 with
    | none => .inl ⟨16, p⟩
    | some n => .inr { x with time := n })) := by
  obtain ⟨r, hr⟩ : ∃ r, r = numP t 1 100 := ⟨_, rfl⟩
  rw [← hr]
  have RN := Lib.hid (fun w : World => refnumber_is t 1 100 ht w)
  rw [← hr] at RN
  clear hr
  have l0 := (Below.refl w.heap.size w).alloc (Nat.le_refl _) (.cells #[.string t, .int .i64 p] 57)
  have HL := Lib.hid (h.later l0)
  have HO := Lib.hid (Only1.of_below (R := X) l0)
  clear l0
  go_enter Tryz.func41, Tryz.ntmps41
  go_wp2_with fail
  refine (RN.out _).mono ?_
  rintro e w1 ⟨rfl, rfl⟩
  cases r with
  | none =>
    dsimp only [numV]
    go_upto_region 28 with fail
    go_region
    go_wp2_with fail
    refine bodyPost_ret (v := .tuple #[.int .i64 16, .int .i64 p]) (by simp [results, Tryz.results41, go_sem]) rfl ⟨HO.out.below (Below.refl _ _).drew, rfl, av, HL.out.later (Below.refl _ _).drew⟩
  | some n =>
    dsimp only [numV]
    have x3 := cellH HL.out.row 3
    have xf := freeH HL.out.row
    simp [lnC] at x3
    go_wp2_with fail
    refine bodyPost_ret (v := .tuple #[.int .i64 0, .int .i64 0]) (by simp [results, Tryz.results41, go_sem]) rfl ⟨HO.out.set _, rfl, av, ?_⟩
    obtain ⟨A, c, e, hA⟩ := HL.out.aft
    exact ⟨(row_set HL.out.row).trans rfl, A, c, e, hA.setX HL.out.row⟩
set_option maxHeartbeats 1000000 in
set_option maxRecDepth 100000 in
theorem value_need (h : LineAt w X x av) (t : ByteArray) (p : Nat) (ht : t.size ≤ 1000000) : Calls Tryz.prog 41 #[.pointer (some ⟨X, 0, none⟩), .string sNeed, .agg #[.string t, .int .i64 p]] w (ValOut w X x (match numP t 1 4 with
    | none => .inl ⟨16, p⟩
    | some n => .inr { x with need := n })) := by
  obtain ⟨r, hr⟩ : ∃ r, r = numP t 1 4 := ⟨_, rfl⟩
  rw [← hr]
  have RN := Lib.hid (fun w : World => refnumber_is t 1 4 ht w)
  rw [← hr] at RN
  clear hr
  have l0 := (Below.refl w.heap.size w).alloc (Nat.le_refl _) (.cells #[.string t, .int .i64 p] 57)
  have HL := Lib.hid (h.later l0)
  have HO := Lib.hid (Only1.of_below (R := X) l0)
  clear l0
  go_enter Tryz.func41, Tryz.ntmps41
  go_wp2_with fail
  refine (RN.out _).mono ?_
  rintro e w1 ⟨rfl, rfl⟩
  cases r with
  | none =>
    dsimp only [numV]
    go_upto_region 33 with fail
    go_region
    go_wp2_with fail
    refine bodyPost_ret (v := .tuple #[.int .i64 16, .int .i64 p]) (by simp [results, Tryz.results41, go_sem]) rfl ⟨HO.out.below (Below.refl _ _).drew, rfl, av, HL.out.later (Below.refl _ _).drew⟩
  | some n =>
    dsimp only [numV]
    have x4 := cellH HL.out.row 4
    have xf := freeH HL.out.row
    simp [lnC] at x4
    go_wp2_with fail
    refine bodyPost_ret (v := .tuple #[.int .i64 0, .int .i64 0]) (by simp [results, Tryz.results41, go_sem]) rfl ⟨HO.out.set _, rfl, av, ?_⟩
    obtain ⟨A, c, e, hA⟩ := HL.out.aft
    exact ⟨(row_set HL.out.row).trans rfl, A, c, e, hA.setX HL.out.row⟩
set_option maxHeartbeats 1000000 in
set_option maxRecDepth 100000 in
theorem value_to (h : LineAt w X x av) (t : ByteArray) (p : Nat) : Calls Tryz.prog 41 #[.pointer (some ⟨X, 0, none⟩), .string sTo, .agg #[.string t, .int .i64 p]] w (ValOut w X x (match labP t with
    | none => .inl ⟨3, p⟩
    | some (a, b) => .inr { x with lv := a, st := b })) := by
  obtain ⟨r, hr⟩ : ∃ r, r = labP t := ⟨_, rfl⟩
  rw [← hr]
  have RN := Lib.hid (fun w : World => reflabel_is t w)
  rw [← hr] at RN
  clear hr
  have l0 := (Below.refl w.heap.size w).alloc (Nat.le_refl _) (.cells #[.string t, .int .i64 p] 57)
  have HL := Lib.hid (h.later l0)
  have HO := Lib.hid (Only1.of_below (R := X) l0)
  have HW := Lib.hid (made_at w (.cells #[.string t, .int .i64 p] 57))
  clear l0
  go_enter Tryz.func41, Tryz.ntmps41
  go_wp2_with fail
  refine (RN.out _).mono ?_
  rintro e w1 ⟨rfl, hb1⟩
  have HL1 := Lib.hid (HL.out.later hb1)
  have HO1 := Lib.hid (HO.out.below hb1)
  have HW1 := Lib.hid (later_at hb1 HW.out)
  clear hb1 HL HO HW RN
  rcases r with _ | ⟨a, b⟩
  · dsimp only [labV]
    have l2 := (Below.refl w1.heap.size w1).alloc (Nat.le_refl _) (.cells #[.int .i64 0, .int .u16 0] 45)
    have y0 := cellH (later_at l2 HW1.out) 0
    have y1 := cellH (later_at l2 HW1.out) 1
    simp at y0 y1
    go_upto_region 18 with fail
    go_region
    go_wp2_with fail
    refine bodyPost_ret (v := .tuple #[.int .i64 3, .int .i64 p]) (by simp [results, Tryz.results41, go_sem]) rfl ⟨(HO1.out.below l2).below (Below.refl _ _).drew, rfl, av, (HL1.out.later l2).later (Below.refl _ _).drew⟩
  · dsimp only [labV]
    have l2 := (Below.refl w1.heap.size w1).alloc (Nat.le_refl _) (.cells #[.int .i64 a, .int .u16 b] 45)
    have HL2 := Lib.hid (HL1.out.later l2)
    have HO2 := Lib.hid (HO1.out.below l2)
    have HM2 := Lib.hid (made_at w1 (.cells #[.int .i64 a, .int .u16 b] 45))
    have x5 := cellH HL2.out.row 5
    have x6 := cellH HL2.out.row 6
    have xf := freeH HL2.out.row
    simp [lnC] at x5 x6
    clear l2
    go_wp2_with fail
    refine bodyPost_ret (v := .tuple #[.int .i64 0, .int .i64 0]) (by simp [results, Tryz.results41, go_sem]) rfl ⟨(HO2.out.set _).set _, rfl, av, ?_⟩
    obtain ⟨A, c, e, hA⟩ := HL2.out.aft
    exact ⟨(row_set (row_set HL2.out.row)).trans rfl, A, c, e, (hA.setX HL2.out.row).setX (row_set HL2.out.row)⟩
theorem namesGo_len (s : ByteArray) (p : Nat) : ∀ (f fr i : Nat) (out l : List Wd), namesGo s p f fr i out = .inl l → l.length ≤ out.length + f + 1
  | 0, fr, i, out, l, h => by
    rw [namesGo_end] at h
    split at h
    · injection h with h
      rw [← h]
      simp
    · cases h
  | f + 1, fr, i, out, l, h => by
    by_cases h44 : byL s i = 44
    · rw [namesGo_comma h44] at h
      split at h
      · have := namesGo_len s p f _ _ _ l h
        simp at this
        omega
      · cases h
    · rw [namesGo_on h44] at h
      have := namesGo_len s p f _ _ _ l h
      omega
def dupR (x : LnP) (l : List Wd) : Option Nat → FaP ⊕ LnP
  | some p => .inl ⟨7, p⟩
  | none => .inr { x with after := l }
theorem dupGo_step {l : List Wd} {f i : Nat} {a : Wd} (hi : l[i]? = some a) : dupGo l (f + 1) i = if memB a.t ((l.take i).map (·.t)) then some a.p else dupGo l f (i + 1) := by
  rw [dupGo, List.getD_eq_getElem?_getD, hi]
  rfl
theorem mem_take {l : List Wd} {i : Nat} {t : ByteArray} : t ∈ (l.take i).map (·.t) ↔ ∃ (k : Nat) (b : Wd), k < i ∧ l[k]? = some b ∧ b.t = t := by
  rw [List.mem_map]
  constructor
  · rintro ⟨b, hb, e⟩
    obtain ⟨k, hk, rfl⟩ := List.mem_iff_getElem.1 hb
    have hk2 := hk
    rw [List.length_take] at hk2
    exact ⟨k, _, by omega, by rw [List.getElem_take, List.getElem?_eq_getElem], e⟩
  · rintro ⟨k, b, hk, hb, e⟩
    refine ⟨b, List.mem_of_getElem? (i := k) ?_, e⟩
    rw [List.getElem?_take, if_pos hk]
    exact hb
set_option maxHeartbeats 1000000 in
set_option maxRecDepth 100000 in
theorem value_after (h : LineAt w X x av) (t : ByteArray) (p : Nat) (ht : t.size ≤ 1000000) (hp : p ≤ 1000000) : Calls Tryz.prog 41 #[.pointer (some ⟨X, 0, none⟩), .string sAfter, .agg #[.string t, .int .i64 p]] w (ValOut w X x (match namesP ⟨t, p⟩ with
    | .inr p => .inl ⟨15, p⟩
    | .inl l => dupR x l (dupP l))) := by
  obtain ⟨r, hr⟩ : ∃ r, r = namesP ⟨t, p⟩ := ⟨_, rfl⟩
  have HN := Lib.hid hr
  rw [← hr]
  have RN := Lib.hid (fun w : World => refnames_is t p ht hp w)
  rw [← hr] at RN
  clear hr
  have l0 := (Below.refl w.heap.size w).alloc (Nat.le_refl _) (.cells #[.string t, .int .i64 p] 57)
  have HL := Lib.hid (h.later l0)
  have HO := Lib.hid (Only1.of_below (R := X) l0)
  clear l0 h
  rcases r with l | q
  · obtain ⟨d, hd⟩ : ∃ d, d = dupP l := ⟨_, rfl⟩
    dsimp only
    rw [← hd]
    have HD := Lib.hid (show d = dupGo l (l.length - 0) 0 from hd)
    clear hd
    go_enter Tryz.func41, Tryz.ntmps41
    go_wp2_with fail
    refine (RN.out _).mono ?_
    rintro e w1 ⟨hb1, A, c, rfl, hA⟩
    have HL1 := Lib.hid (HL.out.later hb1)
    have HO1 := Lib.hid (HO.out.below hb1)
    clear hb1 HL HO RN
    have HA := Lib.hid hA
    have hll : l.length ≤ 1000001 := by
      have := namesGo_len t p t.size 0 0 [] l HN.out.symm
      simp at this
      omega
    clear hA
    go_wp2_with fail
    go_loopw [10] (fun v wr => ∃ i : Nat, v = .int .i64 i ∧ i ≤ l.length ∧ d = dupGo l (l.length - i) i ∧ Below w1.heap.size w1 wr) (fun v _ => l.length - (intOf v).toNat)
    case atStart => exact ⟨0, rfl, Nat.zero_le _, HD.out, Below.refl _ _⟩
    case round =>
      obtain ⟨i, rfl, hi, hdd, hb⟩ := hrel
      have HDD := Lib.hid hdd
      have HB := Lib.hid hb
      clear HD hdd hb
      by_cases hlt : i < l.length
      · obtain ⟨a, ha⟩ : ∃ a, l[i]? = some a := ⟨_, List.getElem?_eq_getElem hlt⟩
        have HI := Lib.hid ha
        obtain ⟨ad, eA, x0, x1⟩ := (HA.out.wds.later HB.out).at_ ha
        subst eA
        have HDS := Lib.hid (show d = if memB a.t ((l.take i).map (·.t)) then some a.p else dupGo l (l.length - (i + 1)) (i + 1) by
          rw [HDD.out, show l.length - i = (l.length - (i + 1)) + 1 by omega, dupGo_step ha])
        clear ha HDD
        go_wp2_with fail
        go_loopw [11] (fun v wx => ∃ k : Nat, v = .int .i64 k ∧ k ≤ i ∧ Below wr.heap.size wr wx ∧ ∀ (j : Nat) (b : Wd), j < k → l[j]? = some b → b.t ≠ a.t) (fun v _ => i - (intOf v).toNat)
        case atStart => exact ⟨0, rfl, Nat.zero_le _, Below.refl _ _, fun j b h => absurd h (by omega)⟩
        case round =>
          obtain ⟨k, rfl, hk, hb, hall⟩ := hrel
          have HBX := Lib.hid hb
          have HALL := Lib.hid hall
          clear hb hall
          have y0 := cell_later HBX.out x0
          have y1 := cell_later HBX.out x1
          by_cases hkt : k < i
          · obtain ⟨b, hb⟩ : ∃ b, l[k]? = some b := ⟨_, List.getElem?_eq_getElem (by omega)⟩
            have HK := Lib.hid hb
            obtain ⟨_, e2, u0, _⟩ := (HA.out.wds.later (HB.out.trans (HBX.out.mono HB.out.size))).at_ hb
            injection e2 with e2
            subst e2
            clear hb
            by_cases he : b.t = a.t
            · have HV := Lib.hid (show d = some a.p from HDS.out.trans (if_pos (memB_iff.2 (mem_take.2 ⟨k, b, hkt, HK.out, he⟩))))
              rw [he] at u0
              have hb1 : (a.t.toList == a.t.toList) = true := by simp
              clear he
              go_upto_region 12 with fail
              go_region
              go_upto_region 13 with fail
              go_region
              go_wp2_with fail
              refine bodyPost_ret (v := .tuple #[.int .i64 7, .int .i64 a.p]) (by simp [results, Tryz.results41, go_sem]) rfl ?_
              rw [HV.out]
              have hbb := ((HB.out.trans (HBX.out.mono HB.out.size)).drew).drew
              exact ⟨HO1.out.below hbb, rfl, av, HL1.out.later hbb⟩
            · have hb1 : (a.t.toList == b.t.toList) = false := by rw [ba_same]; exact decide_eq_false (fun e => he e.symm)
              have HE := Lib.hid he
              clear he
              go_upto_region 12 with fail
              go_region
              go_wp2_with fail
              go_roundw
              case rel => exact ⟨k + 1, by go_num, by omega, HBX.out.drew, fun j c hj hc => by
                rcases Nat.lt_or_ge j k with h | h
                · exact HALL.out j c h hc
                · obtain rfl : j = k := by omega
                  rw [HK.out] at hc
                  obtain rfl := Option.some.inj hc
                  exact HE.out⟩
              case measure => simp [intOf]; omega
          · have HV := Lib.hid (show d = dupGo l (l.length - (i + 1)) (i + 1) from HDS.out.trans (if_neg (fun h => by
              obtain ⟨j, b, hj, hb, e⟩ := mem_take.1 (memB_iff.1 h)
              exact HALL.out j b (by omega) hb e)))
            go_wp2_with fail
            go_roundw
            case rel => exact ⟨i + 1, by go_num, by omega, HV.out, HB.out.trans (HBX.out.mono HB.out.size)⟩
            case measure => simp [intOf]; omega
      · have HV := Lib.hid (show d = none by rw [HDD.out, show l.length - i = 0 by omega]; rfl)
        have HL2 := Lib.hid (HL1.out.later HB.out)
        have x7 := cellH HL2.out.row 7
        have xf := freeH HL2.out.row
        simp [lnC] at x7
        go_wp2_with fail
        refine bodyPost_ret (v := .tuple #[.int .i64 0, .int .i64 0]) (by simp [results, Tryz.results41, go_sem]) rfl ?_
        rw [HV.out]
        exact ⟨(HO1.out.below HB.out).set _, rfl, .slice A l.length c, (row_set HL2.out.row).trans rfl, A, c, rfl, (HA.out.later HB.out).setX HL2.out.row⟩
  · go_enter Tryz.func41, Tryz.ntmps41
    go_wp2_with fail
    refine (RN.out _).mono ?_
    rintro e w1 ⟨hb1, rfl⟩
    have HL1 := Lib.hid (HL.out.later hb1)
    have HO1 := Lib.hid (HO.out.below hb1)
    clear hb1 HL HO RN
    have hq0 : (0 : Int) ≤ q := by omega
    go_wp2_with fail
    refine bodyPost_ret (v := .tuple #[.int .i64 15, .int .i64 q]) (by simp [results, Tryz.results41, go_sem]) rfl ⟨HO1.out, rfl, av, HL1.out⟩
end
end Go.Proofs.YtcfnmjhelhdobaaGreatDoor

namespace Go.Proofs.YtcfnmjhelhdobaaGreatDoor
open Go.RowKit

section
variable {w : World} {X : Nat} {x : LnP} {av : Value}
theorem val_word {word : ByteArray} {g : Bool} (h : memB word (wordsP g) = true) : word = sAfter ∨ word = sTime ∨ word = sTo ∨ word = sNeed ∨ word = sRetry := by
  have h2 := memB_iff.1 h
  cases g
  · simp only [wordsP, Bool.false_eq_true, if_false, List.mem_cons, List.not_mem_nil, or_false] at h2
    rcases h2 with h2 | h2 | h2
    · exact .inl h2
    · exact .inr (.inl h2)
    · exact .inr (.inr (.inr (.inr h2)))
  · simp only [wordsP, if_true, List.mem_cons, List.not_mem_nil, or_false] at h2
    rcases h2 with h2 | h2 | h2 | h2
    · exact .inl h2
    · exact .inr (.inl h2)
    · exact .inr (.inr (.inl h2))
    · exact .inr (.inr (.inr (.inl h2)))
theorem value_is (h : LineAt w X x av) {word : ByteArray} {g : Bool} (hm : memB word (wordsP g) = true) (t : ByteArray) (p : Nat) (ht : t.size ≤ 1000000) (hp : p ≤ 1000000) :
    Calls Tryz.prog 41 #[.pointer (some ⟨X, 0, none⟩), .string word, .agg #[.string t, .int .i64 p]] w (ValOut w X x (valueP x word ⟨t, p⟩)) := by
  rcases val_word hm with rfl | rfl | rfl | rfl | rfl
  · have e : valueP x sAfter ⟨t, p⟩ = (match namesP ⟨t, p⟩ with
      | .inr p => .inl ⟨15, p⟩
      | .inl l => dupR x l (dupP l)) := by
      rw [valueP, if_pos rfl]
      cases namesP ⟨t, p⟩ with
      | inr q => rfl
      | inl l =>
        show (match dupP l with | some p => _ | none => _) = dupR x l (dupP l)
        cases dupP l <;> rfl
    rw [e]
    exact value_after h t p ht hp
  · have e : valueP x sTime ⟨t, p⟩ = (match numP t 1 100 with
      | none => .inl ⟨16, p⟩
      | some n => .inr { x with time := n }) := by
      rw [valueP, if_neg (by decide), if_neg (by decide), if_neg (by decide), if_pos rfl]
      rfl
    rw [e]
    exact value_time h t p ht
  · have e : valueP x sTo ⟨t, p⟩ = (match labP t with
      | none => .inl ⟨3, p⟩
      | some (a, b) => .inr { x with lv := a, st := b }) := by
      rw [valueP, if_neg (by decide), if_pos rfl]
      rfl
    rw [e]
    exact value_to h t p
  · have e : valueP x sNeed ⟨t, p⟩ = (match numP t 1 4 with
      | none => .inl ⟨16, p⟩
      | some n => .inr { x with need := n }) := by
      rw [valueP, if_neg (by decide), if_neg (by decide), if_neg (by decide), if_neg (by decide), if_pos rfl]
      rfl
    rw [e]
    exact value_need h t p ht
  · have e : valueP x sRetry ⟨t, p⟩ = (match numP t 0 5 with
      | none => .inl ⟨16, p⟩
      | some n => .inr { x with retry := n }) := by
      rw [valueP, if_neg (by decide), if_neg (by decide), if_pos rfl]
      rfl
    rw [e]
    exact value_retry h t p ht
end

/-- A line as a value. -/
def lnV (x : LnP) (av : Value) : Value := .agg (lnC x av)
def AftAt (w : World) (x : LnP) (av : Value) : Prop := ∃ A c, av = .slice A x.after.length c ∧ WdsRow w A x.after
def LineOut (w : World) (r : FaP ⊕ LnP) (e : Ending) (w' : World) : Prop := Below w.heap.size w w' ∧ match r with
  | .inl f => ∃ (y : LnP) (A : Option Addr) (n c : Nat), e = .returned (.tuple #[lnV y (.slice A n c), .int .i64 f.e, .int .i64 f.p])
  | .inr y => ∃ av, e = .returned (.tuple #[lnV y av, .int .i64 0, .int .i64 0]) ∧ AftAt w' y av
/-- Eight cells are set. -/
def set8 (W : World) (B : Nat) (y : LnP) (au : Value) : World := (((((((W.setCell ⟨B, 0, none⟩ (.string y.name)).setCell ⟨B, 1, none⟩ (.slice none 0 0)).setCell ⟨B, 2, none⟩ (.int .i64 y.retry)).setCell ⟨B, 3, none⟩ (.int .i64 y.time)).setCell ⟨B, 4, none⟩ (.int .i64 y.need)).setCell ⟨B, 5, none⟩ (.int .i64 y.lv)).setCell ⟨B, 6, none⟩ (.int .u16 y.st)).setCell ⟨B, 7, none⟩ au
theorem lnC_size (x : LnP) (av : Value) : (lnC x av).size = 8 := rfl
section
variable {w W : World} {B : Nat} {x y : LnP} {av au : Value} {t : TypeId} {m : Nat × Nat}
theorem set8_row (h : W.heap[B]? = some (.cells (lnC x av) t m)) : (set8 W B y au).heap[B]? = some (.cells (lnC y au) t m) := by
  have h0 := row_set (i := 0) (v := .string y.name) h
  have h1 := row_set (i := 1) (v := .slice none 0 0) h0
  have h2 := row_set (i := 2) (v := .int .i64 y.retry) h1
  have h3 := row_set (i := 3) (v := .int .i64 y.time) h2
  have h4 := row_set (i := 4) (v := .int .i64 y.need) h3
  have h5 := row_set (i := 5) (v := .int .i64 y.lv) h4
  have h6 := row_set (i := 6) (v := .int .u16 y.st) h5
  have h7 := row_set (i := 7) (v := au) h6
  exact h7.trans (by simp [lnC])
theorem set8_below (h : Below w.heap.size w W) (y : LnP) (au : Value) : Below w.heap.size w (set8 W w.heap.size y au) := by
  have h0 := h.setCell (p := ⟨w.heap.size, 0, none⟩) (Nat.le_refl _) (.string y.name)
  have h1 := h0.setCell (p := ⟨w.heap.size, 1, none⟩) (Nat.le_refl _) (.slice none 0 0)
  have h2 := h1.setCell (p := ⟨w.heap.size, 2, none⟩) (Nat.le_refl _) (.int .i64 y.retry)
  have h3 := h2.setCell (p := ⟨w.heap.size, 3, none⟩) (Nat.le_refl _) (.int .i64 y.time)
  have h4 := h3.setCell (p := ⟨w.heap.size, 4, none⟩) (Nat.le_refl _) (.int .i64 y.need)
  have h5 := h4.setCell (p := ⟨w.heap.size, 5, none⟩) (Nat.le_refl _) (.int .i64 y.lv)
  have h6 := h5.setCell (p := ⟨w.heap.size, 6, none⟩) (Nat.le_refl _) (.int .u16 y.st)
  exact h6.setCell (p := ⟨w.heap.size, 7, none⟩) (Nat.le_refl _) au
theorem set8_other {g : Nat} (hg : g ≠ B) : (set8 W B y au).heap[g]? = W.heap[g]? := by
  have o : ∀ (V : World) (i : Nat) (v : Value), (V.setCell ⟨B, i, none⟩ v).heap[g]? = V.heap[g]? := fun V i v => Below.heap_setCell V ⟨B, i, none⟩ v g (by simpa using hg)
  unfold set8
  rw [o, o, o, o, o, o, o, o]
end
theorem results_cell3 {P : Program} {fn : Func} {p u v : Tmp} {ty : TypeId} (h : fn.results = #[.cell p ty, .tmp u, .tmp v]) (tmps : Array Value) (w : World) (g : Nat) (t : TypeId) (cs : Array Value) (fr : Nat × Nat) (d : TypeDesc)
    (hp : tmps.getD p undef = .pointer (some ⟨g, 0, none⟩)) (hg : w.heap[g]? = some (.cells cs t fr))
    (hu : P.underlying ty = some d) (hd : (match d with | .struct _ | .array _ _ => true | _ => false) = true) (hi : (P.info? ty).map (·.size) = some cs.size) :
    (results fn tmps).run P w = .ok (.tuple #[.agg cs, tmps.getD u undef, tmps.getD v undef]) w := by
  have hp' : tmps[p]?.getD undef = .pointer (some ⟨g, 0, none⟩) := by simpa using hp
  simp [results, h, hp', asAddr, run_loadVar_row w g t ty cs fr d hg hu hd hi]
theorem info_str3 : (Tryz.prog.info? 9).map (fun i => (i.zero, i.size, i.bytes)) = some (some (.string ⟨#[]⟩), 1, 16) := by kernel_rfl
theorem info_ln : (Tryz.prog.info? 62).map (·.size) = some 8 := by kernel_rfl
/-- What lies in memory while a line is gone over: the result, the task. -/
structure LnW (w : World) (x : LnP) (av : Value) (W : World) : Prop where
  res : W.heap[w.heap.size]? = some (.cells (lnC ⟨.empty, 0, 0, 0, 0, 0, []⟩ (.slice none 0 0)) 62 (0, 0))
  task : LineAt W (w.heap.size + 1) x av
  low : Below w.heap.size w W
theorem LnW.later {w W W' : World} {x : LnP} {av : Value} (h : LnW w x av W) (hb : Below W.heap.size W W') : LnW w x av W' := ⟨later_at hb h.res, h.task.later hb, below_step h.low hb⟩

theorem ba_list {s t : ByteArray} {l : List UInt8} (h : t.data.toList = l) : (s.toList == l) = decide (s = t) := by
  rw [← h, ← Go.ByteArray.toList_eq t]
  exact ba_same
theorem drew_row {w : World} {g : Nat} {o : Obj} (h : w.heap[g]? = some o) : w.drew.heap[g]? = some o := h
theorem LnW.fin {w W : World} {x : LnP} {av : Value} (h : LnW w x av W) (y : LnP) (au : Value) : (set8 W w.heap.size y au).heap[w.heap.size]? = some (.cells (lnC y au) 62 (0, 0)) ∧ Below w.heap.size w (set8 W w.heap.size y au) :=
  ⟨set8_row h.res, set8_below h.low y au⟩
theorem LnW.find {w W : World} {x : LnP} {av : Value} (h : LnW w x av W) (y : LnP) (au : Value) : (set8 W w.heap.size y au).drew.heap[w.heap.size]? = some (.cells (lnC y au) 62 (0, 0)) ∧ Below w.heap.size w (set8 W w.heap.size y au).drew :=
  ⟨drew_row (h.fin y au).1, (h.fin y au).2.drew⟩

theorem LnW.name {w W : World} {x : LnP} {av : Value} (h : LnW w x av W) (n : ByteArray) : LnW w { x with name := n } av (W.setCell ⟨w.heap.size + 1, 0, none⟩ (.string n)) := by
  obtain ⟨A, c, e, hA⟩ := h.task.aft
  refine ⟨(Below.heap_setCell W ⟨w.heap.size + 1, 0, none⟩ _ w.heap.size (by simp)).trans h.res, ⟨(row_set h.task.row).trans (by simp [lnC]), A, c, e, hA.setX h.task.row⟩, h.low.setCell (p := ⟨w.heap.size + 1, 0, none⟩) (Nat.le_succ _) _⟩
/-- Behind all pairs. -/
def endP (g : Bool) (p : Nat) : FaP ⊕ (LnP × List ByteArray) → FaP ⊕ LnP
  | .inl e => .inl e
  | .inr (x, seen) => if g = true ∧ (memB sTo seen = false ∨ memB sNeed seen = false) then .inl ⟨3, p⟩ else .inr x
theorem line_pairs {l : List Wd} {names : List ByteArray} {a b : Wd} (ha : l[0]? = some a) (hb : l[1]? = some b) (h8 : ¬ names.length = 8) (ht : ¬ (a.t ≠ sTask ∧ a.t ≠ sGate)) (hn : nameP b.t = true) (hm : memB b.t names = false) :
    lineP l names = endP (decide (a.t = sGate)) a.p (pairsP (decide (a.t = sGate)) [] (ln0 b.t) (l.drop 2)) := by
  have hga : l.getD 0 default = a := by rw [List.getD_eq_getElem?_getD, ha]; rfl
  have hgb : l.getD 1 default = b := by rw [List.getD_eq_getElem?_getD, hb]; rfl
  have hl : ¬ l.length < 2 := by
    have := (List.getElem?_eq_some_iff.1 hb).1
    omega
  unfold lineP
  rw [hga, hgb]
  dsimp only
  rw [if_neg h8, if_neg ht, if_neg hl, if_neg (by rw [hn]; decide), if_neg (by rw [hm]; decide)]
  unfold endP
  cases pairsP (decide (a.t = sGate)) [] (ln0 b.t) (l.drop 2) with
  | inl e => rfl
  | inr y => simp only [decide_eq_true_eq]
theorem line_err1 {l : List Wd} {names : List ByteArray} {a : Wd} (ha : l[0]? = some a) (h8 : ¬ names.length = 8) (ht : a.t ≠ sTask ∧ a.t ≠ sGate) : lineP l names = .inl ⟨17, a.p⟩ := by
  have hga : l.getD 0 default = a := by rw [List.getD_eq_getElem?_getD, ha]; rfl
  unfold lineP
  rw [hga]
  dsimp only
  rw [if_neg h8, if_pos ht]
theorem line_err2 {l : List Wd} {names : List ByteArray} {a : Wd} (ha : l[0]? = some a) (h8 : ¬ names.length = 8) (ht : ¬ (a.t ≠ sTask ∧ a.t ≠ sGate)) (hl : l.length < 2) : lineP l names = .inl ⟨3, a.p⟩ := by
  have hga : l.getD 0 default = a := by rw [List.getD_eq_getElem?_getD, ha]; rfl
  unfold lineP
  rw [hga]
  dsimp only
  rw [if_neg h8, if_neg ht, if_pos hl]
theorem line_err3 {l : List Wd} {names : List ByteArray} {a b : Wd} (ha : l[0]? = some a) (hb : l[1]? = some b) (h8 : ¬ names.length = 8) (ht : ¬ (a.t ≠ sTask ∧ a.t ≠ sGate)) (hn : nameP b.t = false) : lineP l names = .inl ⟨15, b.p⟩ := by
  have hga : l.getD 0 default = a := by rw [List.getD_eq_getElem?_getD, ha]; rfl
  have hgb : l.getD 1 default = b := by rw [List.getD_eq_getElem?_getD, hb]; rfl
  have hl : ¬ l.length < 2 := by
    have := (List.getElem?_eq_some_iff.1 hb).1
    omega
  unfold lineP
  rw [hga, hgb]
  dsimp only
  rw [if_neg h8, if_neg ht, if_neg hl, if_pos hn]
theorem line_err4 {l : List Wd} {names : List ByteArray} {a b : Wd} (ha : l[0]? = some a) (hb : l[1]? = some b) (h8 : ¬ names.length = 8) (ht : ¬ (a.t ≠ sTask ∧ a.t ≠ sGate)) (hn : nameP b.t = true) (hm : memB b.t names = true) : lineP l names = .inl ⟨7, b.p⟩ := by
  have hga : l.getD 0 default = a := by rw [List.getD_eq_getElem?_getD, ha]; rfl
  have hgb : l.getD 1 default = b := by rw [List.getD_eq_getElem?_getD, hb]; rfl
  have hl : ¬ l.length < 2 := by
    have := (List.getElem?_eq_some_iff.1 hb).1
    omega
  unfold lineP
  rw [hga, hgb]
  dsimp only
  rw [if_neg h8, if_neg ht, if_neg hl, if_neg (by rw [hn]; decide), if_pos hm]

theorem pairs_17 {g : Bool} {seen : List ByteArray} {x : LnP} {y : Wd} (hm : memB y.t (wordsP g) = false) : ∀ rest, pairsP g seen x (y :: rest) = .inl ⟨17, y.p⟩
  | [] => by rw [pairsP, if_pos hm]
  | b :: r => by rw [pairsP, if_pos hm]
theorem pairs_7 {g : Bool} {seen : List ByteArray} {x : LnP} {y : Wd} (hm : memB y.t (wordsP g) = true) (hs : memB y.t seen = true) : ∀ rest, pairsP g seen x (y :: rest) = .inl ⟨7, y.p⟩
  | [] => by rw [pairsP, if_neg (by rw [hm]; decide), if_pos hs]
  | b :: r => by rw [pairsP, if_neg (by rw [hm]; decide), if_pos hs]
theorem pairs_3 {g : Bool} {seen : List ByteArray} {x : LnP} {y : Wd} (hm : memB y.t (wordsP g) = true) (hs : memB y.t seen = false) : pairsP g seen x [y] = .inl ⟨3, y.p⟩ := by
  rw [pairsP, if_neg (by rw [hm]; decide), if_neg (by rw [hs]; decide)]
theorem pairs_bad {g : Bool} {seen : List ByteArray} {x : LnP} {y z : Wd} {r : List Wd} {f : FaP} (hm : memB y.t (wordsP g) = true) (hs : memB y.t seen = false) (hv : valueP x y.t z = .inl f) : pairsP g seen x (y :: z :: r) = .inl f := by
  rw [pairsP, if_neg (by rw [hm]; decide), if_neg (by rw [hs]; decide), hv]
theorem pairs_good {g : Bool} {seen : List ByteArray} {x x' : LnP} {y z : Wd} {r : List Wd} (hm : memB y.t (wordsP g) = true) (hs : memB y.t seen = false) (hv : valueP x y.t z = .inr x') : pairsP g seen x (y :: z :: r) = pairsP g (seen ++ [y.t]) x' r := by
  rw [pairsP, if_neg (by rw [hm]; decide), if_neg (by rw [hs]; decide), hv]
theorem drop_at {l : List Wd} {k : Nat} {y : Wd} (h : l[k]? = some y) : l.drop k = y :: l.drop (k + 1) := by
  obtain ⟨hk, rfl⟩ := List.getElem?_eq_some_iff.1 h
  exact List.drop_eq_getElem_cons hk
theorem value_err {x : LnP} {word : ByteArray} {w : Wd} {f : FaP} (h : valueP x word w = .inl f) : (f.e : Int) ≠ 0 := by
  unfold valueP at h
  split at h
  · split at h
    · injection h with h
      rw [← h]
      simp
    · split at h
      · injection h with h
        rw [← h]
        simp
      · cases h
  · split at h
    · split at h
      · injection h with h
        rw [← h]
        simp
      · cases h
    · split at h
      · split at h
        · injection h with h
          rw [← h]
          simp
        · cases h
      · split at h
        · split at h
          · injection h with h
            rw [← h]
            simp
          · cases h
        · split at h
          · split at h
            · injection h with h
              rw [← h]
              simp
            · cases h
          · cases h
theorem own_texts {W : World} {b m : Nat} {v : Value} {L : List ByteArray} (h : W.ownsRow b 9 1 v m (L.map Value.string)) : ∃ A c, v = .slice A m c ∧ TextsAt W A L := by
  have hl := h.1
  simp at hl
  rcases h.2 with ⟨rfl, e⟩ | ⟨g, cap, cur, rfl, hb, hq, _, _, _, ht⟩
  · exact ⟨none, 0, by rw [e], fun h0 => absurd h0 (by omega)⟩
  · refine ⟨_, cap, rfl, fun _ => ⟨_, rfl, fun i s hs => ?_⟩⟩
    have hadd : (⟨g, 0, none⟩ : Addr).add i = ⟨g, i, none⟩ := by unfold Addr.add; split <;> simp_all
    have h1 : (cur.toList.take (m * 1))[i]? = some (Value.string s) := by rw [ht, List.getElem?_map, hs]; rfl
    rw [hadd]
    rw [List.getElem?_take] at h1
    split at h1
    · simp only [World.cell?, hq]
      simpa using h1
    · exact absurd h1 (by simp)
theorem tag_ne {w : World} {g : Nat} {c1 c2 : Array Value} {t1 t2 : TypeId} {m1 m2 : Nat × Nat} (h1 : w.heap[g]? = some (.cells c1 t1 m1)) (h2 : w.heap[g]? = some (.cells c2 t2 m2)) : t1 = t2 := by
  rw [h1] at h2
  injection h2 with h2
  injection h2 with _ h2
theorem LnW.grown {w W W' : World} {x : LnP} {av v : Value} {n : Nat} {xs : List Value} (h : LnW w x av W) (ho : W.ownsRow (w.heap.size + 2) 9 1 v n xs) (hg : W.grownBy W' v.ownBlock) : LnW w x av W' := by
  have keep : ∀ q, q < W.heap.size → (∀ b, v.ownBlock = some b → q ≠ b) → W'.heap[q]? = W.heap[q]? := fun q hq hn => hg.block q hq (fun e => hn q e.symm rfl)
  obtain ⟨A, c, e, hA⟩ := h.task.aft
  have low := h.low.size
  refine ⟨(keep _ (Array.getElem?_eq_some_iff.1 h.res).1 (fun b hb => by have := (own_tag ho hb).1; omega)).trans h.res, ⟨(keep _ (Array.getElem?_eq_some_iff.1 h.task.row).1 (fun b hb => by have := (own_tag ho hb).1; omega)).trans h.task.row, A, c, e, ?_⟩, h.low.grown hg low (fun b hb => by have := (own_tag ho hb).1; omega)⟩
  exact hA.frame (fun g cur hg => keep g (Array.getElem?_eq_some_iff.1 hg).1 (fun b hb hgb => by
    subst hgb
    obtain ⟨_, cur', h2⟩ := own_tag ho hb
    exact absurd (tag_ne hg h2) (by decide)))
theorem aft_set8 {W : World} {R : Nat} {x y : LnP} {av au : Value} {cs : Array Value} (h : AftAt W x av) (hR : W.heap[R]? = some (.cells cs 62 (0, 0))) : AftAt (set8 W R y au) x av := by
  obtain ⟨A, c, e, hA⟩ := h
  exact ⟨A, c, e, hA.frame (fun g cur hg => set8_other (fun e => by
    subst e
    exact absurd (tag_ne hg hR) (by decide)))⟩
theorem LnW.only {w W W' : World} {x y : LnP} {av au : Value} (h : LnW w x av W) (ho : Only1 (w.heap.size + 1) W W') (hl : LineAt W' (w.heap.size + 1) y au) : LnW w y au W' := by
  refine ⟨(ho.block _ (Array.getElem?_eq_some_iff.1 h.res).1 (by omega)).trans h.res, hl, ?_⟩
  have low := h.low
  exact ⟨ho.os.trans low.os, ho.tape.trans low.tape, ho.output.trans low.output, Nat.le_trans low.size ho.size, fun i hi => (ho.block i (Nat.lt_of_lt_of_le hi low.size) (by omega)).trans (low.block i hi)⟩
theorem own_only {W W' : World} {X b n : Nat} {v : Value} {xs : List Value} {x : LnP} {av : Value} (h : W.ownsRow b 9 1 v n xs) (hx : LineAt W X x av) (ho : Only1 X W W') : W'.ownsRow b 9 1 v n xs :=
  own_frame h (fun q cur _ hq => ho.block q (Array.getElem?_eq_some_iff.1 hq).1 (fun e => by
    subst e
    exact absurd (tag_ne hq hx.row) (by decide)))

end Go.Proofs.YtcfnmjhelhdobaaGreatDoor
