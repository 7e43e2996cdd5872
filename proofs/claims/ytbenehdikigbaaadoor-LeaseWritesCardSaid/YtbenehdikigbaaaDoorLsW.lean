/-
  LeaseWrites over what Write and Read must do. Conditions: what the library's variables hold.
-/
import Derived.Test.YtbenehdikigbaaaDoorLsAw
import Derived.Test.YtbenehdikigbaaaDoorCodBa
import Derived.Test.YtbenehdikigbaaaDoorLsO
namespace Go.Proofs.YtbenehdikigbaaaDoor
open Go.RowKit

/-- A try's six numbers as a text. -/
def sixX (t : TrP) : ByteArray := ((((numX t.st ++ numX t.sn) ++ numX t.ms) ++ numX t.wk) ++ numX t.ls) ++ numX t.un
theorem sixX_bl (t : TrP) (T : ByteArray) : bl (sixX t ++ T) = numT t.st ++ (numT t.sn ++ (numT t.ms ++ (numT t.wk ++ (numT t.ls ++ (numT t.un ++ bl T))))) := by
  unfold sixX
  simp only [bl_append, bl_numX, List.append_assoc]
theorem sixX_front {t u : TrP} {T U : ByteArray} (h : sixX t ++ T = sixX u ++ U) : t = u ∧ T = U := by
  have h1 := congrArg bl h
  rw [sixX_bl, sixX_bl] at h1
  obtain ⟨e0, h1⟩ := numT_front h1
  obtain ⟨e1, h1⟩ := numT_front h1
  obtain ⟨e2, h1⟩ := numT_front h1
  obtain ⟨e3, h1⟩ := numT_front h1
  obtain ⟨e4, h1⟩ := numT_front h1
  obtain ⟨e5, h1⟩ := numT_front h1
  refine ⟨?_, bl_inj h1⟩
  obtain ⟨a0, a1, a2, a3, a4, a5⟩ := t
  obtain ⟨b0, b1, b2, b3, b4, b5⟩ := u
  simp only [] at e0 e1 e2 e3 e4 e5
  rw [e0, e1, e2, e3, e4, e5]
theorem sixX_size {t : TrP} (h : t.In) : (sixX t).size ≤ 126 := by
  have h0 := numX_len h.st.1 h.st.2
  have h1 := numX_len h.sn.1 h.sn.2
  have h2 := numX_len h.ms.1 h.ms.2
  have h3 := numX_len h.wk.1 h.wk.2
  have h4 := numX_len h.ls.1 h.ls.2
  have h5 := numX_len h.un.1 h.un.2
  unfold sixX
  simp only [ByteArray.size_append]
  omega
theorem sixX_ints (t : TrP) : intsX .empty (tryL t) = sixX t := by
  apply bl_inj
  unfold sixX tryL intsX
  simp only [List.foldl_cons, List.foldl_nil, bl_append]
  rfl
/-- What Read has read: a try that may be, and what is left; or it has stopped, and the try is zero. -/
def ReadSpec (S : ByteArray) (z : TrP) (b : Bool) (S' : ByteArray) : Prop := (b = true → z = noTr) ∧ (b = false → rightT z = true ∧ S = sixX z ++ S') ∧ ∀ t T, rightT t = true → S = sixX t ++ T → b = false
theorem ReadSpec.yes {t z : TrP} {b : Bool} {S' : ByteArray} (h : ReadSpec (sixX t) z b S') (ht : rightT t = true) : b = false ∧ z = t ∧ S' = .empty := by
  have hb := h.2.2 t .empty ht (by apply bl_inj; rw [bl_append]; exact (List.append_nil _).symm)
  have h1 := (h.2.1 hb).2
  have h2 : sixX t ++ ByteArray.empty = sixX z ++ S' := by rw [← h1]; apply bl_inj; rw [bl_append]; exact List.append_nil _
  have := sixX_front h2
  exact ⟨hb, this.1.symm, this.2.symm⟩
theorem ReadSpec.no {t z : TrP} {b : Bool} {S' : ByteArray} (h : ReadSpec (sixX t) z b S') (ht : rightT t = false) : b = true ∧ z = noTr := by
  cases b with
  | true => exact ⟨rfl, h.1 rfl⟩
  | false =>
    have h1 := h.2.1 rfl
    have h2 : sixX t ++ ByteArray.empty = sixX z ++ S' := by rw [← h1.2]; apply bl_inj; rw [bl_append]; exact List.append_nil _
    rw [(sixX_front h2).1, h1.1] at ht
    cases ht
/-- What the law asks of the program's Write and Read. -/
structure LsRW : Prop where
  write : ∀ {w W : World} {m P : Nat} {T : ByteArray} (t : TrP), WrB w W m P T → Below w.heap.size w W → m ≤ W.heap.size → t.In → T.size ≤ 1000000 → Calls Tryd.prog 5 #[.pointer (some ⟨P, 0, none⟩), tryV t] W (WroteB w W m P (intsX T (tryL t)))
  read : ∀ {w : World} {R : Nat} {S : ByteArray}, RdAt w R S false → VarsAt w → S.size ≤ 1000000 → Calls Tryd.prog 8 #[.pointer (some ⟨R, 0, none⟩)] w fun e w' => ∃ z b S', e = .returned (tryV z) ∧ RdAt w' R S' b ∧ Only1 R w w' ∧ ReadSpec S z b S'
end Go.Proofs.YtbenehdikigbaaaDoor
