/-
  The laws' calls (package lockagelaw06) that come in as an argument, opened; what few answers of them. No conditions but how they lie.
-/
import Derived.Test.YthmjeibanofliaaDoorCodD
import Derived.ProofKit
import Derived.OpenShut
import Derived.ChangeOld
import Derived.Deep.Slices
import Derived.SliceStrings
import Derived.Lib.SmallJoins
namespace Go.Proofs.YthmjeibanofliaaDoor
open Go.ChangeShapes Go.WideShapes Go.ChangeAt Go.RowKit Go.Joins Go.Deep

/-- One call of the laws. -/
structure COp where
  k : Int
  n : Int
  lo : Int
  hi : Int
  s : ByteArray
  a : Int
  b : Int
/-- What is known of one call that comes in. -/
structure COp.Ok (o : COp) : Prop where
  k0 : -9223372036854775808 ≤ o.k
  k1 : o.k ≤ 9223372036854775807
  n0 : -9223372036854775808 ≤ o.n
  n1 : o.n ≤ 9223372036854775807
  lo0 : -9223372036854775808 ≤ o.lo
  lo1 : o.lo ≤ 9223372036854775807
  hi0 : -9223372036854775808 ≤ o.hi
  hi1 : o.hi ≤ 9223372036854775807
  s1 : o.s.size ≤ maxLen
  a0 : -9223372036854775808 ≤ o.a
  a1 : o.a ≤ 9223372036854775807
  b0 : 0 ≤ o.b
  b1 : o.b ≤ 65535
/-- The cells of a call. -/
def copL (o : COp) : List Value := [.int .i64 o.k, .int .i64 o.n, .int .i64 o.lo, .int .i64 o.hi, .string o.s, .int .i64 o.a, .int .u16 o.b]

section
variable {H : Type} {enc : TypeId × Value → H} {w : World} {base : Nat} {spare : Nat → Bool} {held : Bool}

theorem cellsI : Tryd.prog.cellsOf 3 = 1 := by kernel_rfl
theorem cellsS : Tryd.prog.cellsOf 9 = 1 := by kernel_rfl

/-- n calls stand at A. -/
def CopsAt (w : World) (A : Option Addr) (n : Nat) (op : Nat → COp) : Prop :=
  0 < n → ∃ ad, A = some ad ∧ ∀ i, i < n → w.cell? (ad.add (i * 7)) = some (.int .i64 (op i).k) ∧ w.cell? ⟨(ad.add (i * 7)).block, (ad.add (i * 7)).off + 1, none⟩ = some (.int .i64 (op i).n) ∧
    w.cell? ⟨(ad.add (i * 7)).block, (ad.add (i * 7)).off + 1 + 1, none⟩ = some (.int .i64 (op i).lo) ∧ w.cell? ⟨(ad.add (i * 7)).block, (ad.add (i * 7)).off + 1 + 1 + 1, none⟩ = some (.int .i64 (op i).hi) ∧
    w.cell? ⟨(ad.add (i * 7)).block, (ad.add (i * 7)).off + 1 + 1 + 1 + 1, none⟩ = some (.string (op i).s) ∧ w.cell? ⟨(ad.add (i * 7)).block, (ad.add (i * 7)).off + 1 + 1 + 1 + 1 + 1, none⟩ = some (.int .i64 (op i).a) ∧
    w.cell? ⟨(ad.add (i * 7)).block, (ad.add (i * 7)).off + 1 + 1 + 1 + 1 + 1 + 1, none⟩ = some (.int .u16 (op i).b)
theorem CopsAt.later {w w' : World} {A : Option Addr} {n : Nat} {op : Nat → COp} (h : CopsAt w A n op) (hb : Below w.heap.size w w') : CopsAt w' A n op := fun hn => by
  obtain ⟨ad, e, hc⟩ := h hn
  refine ⟨ad, e, fun i hi => ?_⟩
  obtain ⟨h0, h1, h2, h3, h4, h5, h6⟩ := hc i hi
  exact ⟨cell_later hb h0, cell_later hb h1, cell_later hb h2, cell_later hb h3, cell_later hb h4, cell_later hb h5, cell_later hb h6⟩
theorem addr_at (ad : Addr) (k j : Nat) : (⟨(ad.add k).block, (ad.add k).off + (j + 1), none⟩ : Addr) = ad.add (k + (j + 1)) := by
  unfold Addr.add
  by_cases hk : k = 0 <;> simp [hk, Nat.add_assoc]
def numAt (w : World) (a : Addr) : Int := match w.cell? a with | some (.int _ z) => z | _ => 0
def txtAt (w : World) (a : Addr) : ByteArray := match w.cell? a with | some (.string s) => s | _ => ⟨#[]⟩
end

section
variable {w : World} {A : Option Addr} {n c : Nat} {op : Nat → COp}
/-- Few calls, with texts that aren't long. -/
def fewOk (n : Nat) (op : Nat → COp) : Prop := n ≤ 100 ∧ ∀ i, i < n → (op i).s.size ≤ 300
/-- What few answers. -/
def FewE (n : Nat) (op : Nat → COp) (e : Ending) : Prop := ∃ b, e = .returned (.bool b) ∧ (b = true → fewOk n op)
end
end Go.Proofs.YthmjeibanofliaaDoor
