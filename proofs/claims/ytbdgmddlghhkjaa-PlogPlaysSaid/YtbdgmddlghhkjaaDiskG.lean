/-
  What the document's disk (package lockageref03) does where it is written. No conditions but how it lies in memory, and that there have been at most a million writes. What the document's New (package lockageref03) makes: a disk of so many sectors of noughts. No conditions but the number. What the laws of layer 3 ask of the program's disk: each call does what the document's does. (A bundle of contracts, over whatever way in which the disk lies in memory.)
-/
import Derived.Test.YtbdgmddlghhkjaaDiskD
import Derived.OwnWalk
import Derived.Deep.RegionLaw
namespace Go.Proofs.Ytbdgmddlghhkjaa
open Go.RowKit

/-- A write is put into the cache. -/
def putS (st : Dk) (at_ : Int) (s : ByteArray) : Dk := { st with cache := st.cache ++ [(at_, s)], writes := st.writes + 1, armed := if 0 < st.armed then st.armed - 1 else st.armed }
def outB (st : Dk) (at_ : Int) : Bool := decide (at_ < 0) || decide ((st.kept.length : Int) ≤ at_)
/-- What Write answers, and leaves. -/
def writeE (st : Dk) (at_ : Int) (s : ByteArray) : Int := if st.off then 5 else if outB st at_ then 2 else if s.size ≠ 64 then 1 else if st.armed = 1 then 5 else 0
def writeS (st : Dk) (at_ : Int) (s : ByteArray) : Dk := if st.off then st else if outB st at_ then st else if s.size ≠ 64 then st else if st.armed = 1 then crashS (putS st at_ s) st.bits else putS st at_ s

theorem wrCells_snoc (c : List (Int × ByteArray)) (a : Int) (s : ByteArray) : wrCells (c ++ [(a, s)]) = wrCells c ++ [.int .i64 a, .string s] := by simp [wrCells]
theorem two_cells_new (w : World) (x y : Value) (t : TypeId) : ∀ j u, [x, y][j]? = some u → (w.alloc (.cells #[x, y] t)).cell? ((⟨w.heap.size, 0, none⟩ : Addr).add j) = some u := by
  intro j u hu
  rcases j with _ | _ | j
  · obtain rfl : x = u := by simpa using hu
    simp [go_sem, Addr.add]
  · obtain rfl : y = u := by simpa using hu
    simp [go_sem, Addr.add]
  · simp at hu

section
variable {base R : Nat} {st : Dk} {w : World}

theorem own_ne_blk {w : World} {base : Nat} {e t : TypeId} {size n g : Nat} {v : Value} {xs : List Value} {cs : Array Value} (h : w.ownsRow base e size v n xs) (hg : w.heap[g]? = some (.cells cs t (0, 0))) (hne : e ≠ t) : some g ≠ v.ownBlock := by
  rcases h.2 with ⟨rfl, _⟩ | ⟨q, cap, cur, rfl, _, hq, _⟩
  · simp [Value.ownBlock]
  · intro he
    have : g = q := by simpa [Value.ownBlock] using he
    subst this
    rw [hg] at hq
    injection hq with hq
    injection hq with _ ht
    exact hne ht.symm
theorem own_ne_own {w : World} {b1 b2 : Nat} {e1 e2 : TypeId} {s1 s2 n1 n2 : Nat} {v1 v2 : Value} {x1 x2 : List Value} (h1 : w.ownsRow b1 e1 s1 v1 n1 x1) (h2 : w.ownsRow b2 e2 s2 v2 n2 x2) (hne : e1 ≠ e2) : v1.ownBlock = none ∨ v1.ownBlock ≠ v2.ownBlock := by
  rcases h1.2 with ⟨rfl, _⟩ | ⟨q, cap, cur, rfl, _, hq, _⟩
  · exact .inl rfl
  · exact .inr (own_ne_blk h2 hq (Ne.symm hne))
theorem OnlyT.grown {base : Nat} {T : TypeId → Bool} {w a b : World} {row : Option Nat} (h : OnlyT base T w a) (hg : a.grownBy b row) (hr : ∀ g, row = some g → base ≤ g ∧ ∃ cs t m, a.heap[g]? = some (.cells cs t m) ∧ T t = true) : OnlyT base T w b :=
  h.trans ⟨hg.os, hg.tape, hg.output, hg.size, fun i o ho hc => by
    have hlt : i < a.heap.size := (Array.getElem?_eq_some_iff.1 ho).1
    rw [hg.block i hlt (fun e => ?_)]
    · exact ho
    · obtain ⟨h1, cs, t, m, h2, h3⟩ := hr i e.symm
      rw [h2] at ho
      injection ho with ho
      rcases hc with hc | hc
      · omega
      · rw [hc cs t m ho.symm] at h3; cases h3⟩
theorem own_row {w : World} {base : Nat} {e : TypeId} {size n : Nat} {v : Value} {xs : List Value} (h : w.ownsRow base e size v n xs) : ∀ g, v.ownBlock = some g → base ≤ g ∧ ∃ cs t m, w.heap[g]? = some (.cells cs t m) ∧ t = e := by
  intro g hg
  rcases h.2 with ⟨rfl, _⟩ | ⟨q, cap, cur, rfl, hb, hq, _⟩
  · simp [Value.ownBlock] at hg
  · have : q = g := by simpa [Value.ownBlock] using hg
    subst this
    exact ⟨hb, cur, e, _, hq, rfl⟩
theorem putS_ok (ok : st.Ok) {at_ : Int} {s : ByteArray} (h0 : 0 ≤ at_) (h1 : at_ < st.kept.length) (hs : s.size = 64) : (putS st at_ s).Ok :=
  { ok with
    at_ := fun x hx => by
      rcases List.mem_append.1 hx with h | h
      · exact ok.at_ x h
      · obtain rfl : x = (at_, s) := by simpa using h
        exact ⟨h0, h1, hs⟩
    armed0 := by have := ok.armed0; simp only [putS]; split <;> omega
    armed1 := by have := ok.armed1; simp only [putS]; split <;> omega
    writes0 := by have := ok.writes0; simp only [putS]; omega }

end
end Go.Proofs.Ytbdgmddlghhkjaa

namespace Go.Proofs.Ytbdgmddlghhkjaa
open Go.RowKit

/-- append onto a row of the call's own, as one step of a region that draws. -/
theorem step_append_own {P : Program} (w : World) {ops : Array Oper} {o : Oper} {a : Act} {K : Act → World → Prop} {Q : Exit → Act → World → Prop} {E : Prop} (hgd : o.guard = none) (s x : Operand) (t : TypeId)
    (ho : o.op = .call { callee := .builtin .append, args := #[s, x], argTypes := #[t, t] })
    (base : Nat) (e : TypeId) (i : TypeInfo) (z : Value) (size bytes : Nat) (ht : P.underlying t = some (.slice e)) (hi : P.info? e = some i) (hz : i.zero = some z)
    (hsize : i.size = size) (hby : i.bytes = bytes) (hzs : z.cells.size = size) (hsz : 0 < size)
    (v : Value) (n : Nat) (xs : List Value) (hs : a.eval s = v) (hown : w.ownsRow base e size v n xs)
    (ad : Addr) (m c : Nat) (news : List Value) (hx : a.eval x = .slice (some ad) m c) (hl : news.length = m * size) (hnews : ∀ j u, news[j]? = some u → w.cell? (ad.add j) = some u) (h1 : ∀ u ∈ news, u.oneCell' = true)
    (h63 : n + m ≤ maxLen) (hbytes : (n + m) * bytes ≤ 140737488355328) (hbase : base ≤ w.heap.size)
    (h : ∀ v' w', w'.ownsRow base e size v' (n + m) (xs ++ news) → w.grownBy w' v.ownBlock → (v' = .slice none 0 0 ↔ v = .slice none 0 0 ∧ m = 0) → K (a.put o.dst v') w') :
    if Region.wanted o (yielded ops a.tmps) = true then Oper.wp P o a w K Q else E := by
  have hw : Region.wanted o (yielded ops a.tmps) = true := by simp [Region.wanted, hgd]
  rw [if_pos hw]
  exact wp_append_own w s x t ho base e i z size bytes ht hi hz hsize hby hzs hsz v n xs hs hown ad m c news hx hl hnews h1 h63 hbytes hbase h

theorem info_str : (Try.prog.info? 9).map (fun i => (i.zero, i.size, i.bytes)) = some (some (.string ⟨#[]⟩), 1, 16) := by kernel_rfl
section
variable {base R : Nat} {w : World}
/-- A new disk of n sectors. -/
def newS (n : Nat) : Dk := ⟨List.replicate n (zeroB 64), [], false, 0, 0, 0⟩
theorem newS_ok {n : Nat} (hn : n ≤ 4096) : (newS n).Ok where
  size := fun s hs => by obtain ⟨_, rfl⟩ := List.mem_replicate.1 hs; exact zeroB_size 64
  few := by simpa [newS] using hn
  at_ := fun x hx => absurd hx List.not_mem_nil
  armed0 := Int.le_refl _
  armed1 := by simp [newS]
  bits0 := Int.le_refl _
  bits1 := by simp [newS]
  writes0 := Int.le_refl _

end
end Go.Proofs.Ytbdgmddlghhkjaa

namespace Go.Proofs.Ytbdgmddlghhkjaa
open Go.RowKit

/-- What Kept answers. -/
def keptV (st : Dk) (i : Int) : ByteArray := if i < 0 ∨ (st.kept.length : Int) ≤ i then ⟨#[]⟩ else st.kept.getD i.toNat ⟨#[]⟩
def armS (st : Dk) (a b : Int) : Dk := { st with armed := max a 0, bits := b }
def startS (st : Dk) : Dk := { st with off := false, armed := 0 }

section
variable {base R : Nat} {st : Dk} {w w' : World}
theorem own_frame {T : TypeId → Bool} {e : TypeId} {size n : Nat} {v : Value} {xs : List Value} (h : w.ownsRow base e size v n xs) (ho : OnlyT base T w w') (hT : T e = false) : w'.ownsRow base e size v n xs := by
  obtain ⟨hl, h⟩ := h
  refine ⟨hl, h.imp id ?_⟩
  rintro ⟨q, cap, cur, rfl, hb, hq, h1⟩
  refine ⟨q, cap, cur, rfl, hb, ho.block q _ hq (.inr fun cs t m e => ?_), h1⟩
  injection e with _ e
  rw [← e]; exact hT
end
end Go.Proofs.Ytbdgmddlghhkjaa
