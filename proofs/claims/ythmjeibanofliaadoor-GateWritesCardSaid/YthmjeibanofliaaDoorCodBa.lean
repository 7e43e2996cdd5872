/-
  The law CodecBack, walked. No conditions but how the argument lies in memory, and what the package-level variables hold.
-/
import Derived.Test.YthmjeibanofliaaDoorCodM
namespace Go.Proofs.YthmjeibanofliaaDoor
open Go.RowKit

/-- What the document writes of one call. -/
def levX (a : Int) : Int := a % 8
def opX (o : COp) : ByteArray := if o.k = 1 then numX o.n else if o.k = 2 then numX o.s.size ++ o.s else numX (levX o.a) ++ numX o.b
def headX (op : Nat → COp) : Nat → ByteArray
  | 0 => .empty
  | k + 1 => headX op k ++ opX (op k)
def tailX (op : Nat → COp) : Nat → Nat → ByteArray
  | 0, _ => .empty
  | m + 1, k => opX (op k) ++ tailX op m (k + 1)
theorem head_tail (op : Nat → COp) : ∀ m k : Nat, headX op k ++ tailX op m k = headX op (k + m) := by
  intro m
  induction m with
  | zero => intro k; apply bl_inj; rw [bl_append]; exact List.append_nil _
  | succ m ih =>
    intro k
    have h := ih (k + 1)
    rw [show k + 1 + m = k + (m + 1) by omega] at h
    rw [← h]
    apply bl_inj
    simp only [tailX, headX, bl_append, List.append_assoc]
theorem opX_size {o : COp} (ho : o.Ok) (hs : o.s.size ≤ 300) : (opX o).size ≤ 342 := by
  unfold opX
  split
  · have := numX_len ho.n0 ho.n1; omega
  · split
    · have := numX_len (n := (o.s.size : Int)) (by omega) (by omega); rw [ByteArray.size_append]; omega
    · have h1 := numX_len (n := levX o.a) (by unfold levX; omega) (by unfold levX; omega)
      have h2 := numX_len (n := o.b) (by have := ho.b0; omega) (by have := ho.b1; omega)
      rw [ByteArray.size_append]; omega
theorem headX_size {op : Nat → COp} {n : Nat} (h : ∀ i, i < n → (opX (op i)).size ≤ 342) : ∀ k, k ≤ n → (headX op k).size ≤ 342 * k := by
  intro k
  induction k with
  | zero => intro _; exact Nat.le_refl _
  | succ k ih =>
    intro hk
    have h1 := ih (by omega)
    have h2 := h k (by omega)
    simp only [headX]
    rw [ByteArray.size_append]
    omega
theorem tailX_size {op : Nat → COp} {n : Nat} (h : ∀ i, i < n → (opX (op i)).size ≤ 342) : ∀ m k, k + m ≤ n → (tailX op m k).size ≤ 342 * m := by
  intro m
  induction m with
  | zero => intro k _; exact Nat.le_refl _
  | succ m ih =>
    intro k hk
    have h1 := ih (k + 1) (by omega)
    have h2 := h k (by omega)
    simp only [tailX]
    rw [ByteArray.size_append]
    omega
theorem take_num {n lo hi : Int} (T : ByteArray) (h0 : -9223372036854775808 ≤ n) (h1 : n ≤ 9223372036854775807) (h2 : lo ≤ n) (h3 : n ≤ hi) : Takes (bl (numX n ++ T)) lo hi (some (n, bl T)) :=
  .inl ⟨n, bl T, h0, h1, by rw [bl_append, bl_numX], h2, h3, rfl⟩
theorem iS_num (S T : ByteArray) (n : Int) : iS S false (some (n, bl T)) = T := ofL_bl T
theorem t_text (S s T : ByteArray) : tV false (some ((s.size : Int), bl (s ++ T))) = s ∧ tS S false (some ((s.size : Int), bl (s ++ T))) = T ∧ tB false (some ((s.size : Int), bl (s ++ T))) = false := by
  have h : ¬ ((bl (s ++ T)).length : Int) < (s.size : Int) := by rw [bl_append, List.length_append, bl_len, bl_len]; omega
  simp only [tV, tS, tB, rtT, rtS, rtB, Bool.false_eq_true, if_false, if_neg h, decide_eq_false h, Bool.or_self, Int.toNat_natCast]
  refine ⟨?_, ?_, trivial⟩
  · apply bl_inj
    rw [bl_ofL, bl_append, ← bl_len, List.take_left]
  · apply bl_inj
    rw [bl_ofL, bl_append, ← bl_len, List.drop_left]

/-- The Writer holds T; what it holds in memory is new since w, and below m. -/
def WrB (w W : World) (m P : Nat) (T : ByteArray) : Prop := ∃ O, WrV W O P T ∧ ∀ i ∈ O, w.heap.size ≤ i ∧ i < m
section
variable {w W V : World} {m P : Nat} {T : ByteArray}
theorem WrB.below (h : WrB w W m P T) (hb : Below W.heap.size W V) : WrB w V m P T := by
  obtain ⟨O, h1, h2⟩ := h
  exact ⟨O, h1.below hb, h2⟩
theorem WrB.top (h : WrB w W m P T) : WrB w W W.heap.size P T := by
  obtain ⟨O, h1, h2⟩ := h
  exact ⟨O, h1, fun i hi => ⟨(h2 i hi).1, h1.wr.low.2 i hi⟩⟩
/-- What a call of the Writer leaves. -/
def WroteB (w W : World) (m P : Nat) (T : ByteArray) (e : Ending) (w' : World) : Prop :=
  e = .returned (.tuple #[]) ∧ WrB w w' w'.heap.size P T ∧ Below w.heap.size w w' ∧ ∀ j o, m ≤ j → W.heap[j]? = some o → w'.heap[j]? = some o
theorem wroteB {O : List Nat} {T2 : ByteArray} (hl : Below w.heap.size w W) (hO : ∀ i ∈ O, w.heap.size ≤ i ∧ i < m) {e : Ending} {w' : World} (g : WroteV W O P T2 e w') : WroteB w W m P T2 e w' := by
  obtain ⟨he, O', h1, h2, h3⟩ := g
  refine ⟨he, ⟨O', h1, fun i hi => ⟨?_, h1.wr.low.2 i hi⟩⟩, h3.low hl fun i hi => (hO i hi).1, fun j o hj ho => ?_⟩
  · rcases h2 i hi with h | h
    · exact (hO i h).1
    · exact Nat.le_trans hl.size h
  · rw [h3.block j (Array.getElem?_eq_some_iff.1 ho).1 (fun hm => by have := (hO j hm).2; omega)]
    exact ho
theorem off_of {O : List Nat} {A : Option Addr} (hO : ∀ i ∈ O, w.heap.size ≤ i ∧ i < m) (hA : ∀ ad, A = some ad → m ≤ ad.block) : Off A O := fun ad e hm => by
  have h1 := (hO _ hm).2
  have h2 := hA ad e
  omega
theorem wb_int (h : WrB w W m P T) (hl : Below w.heap.size w W) (A : Option Addr) (L : List Int) (c : Nat) (hA : IntsAt W A L) (hm : ∀ ad, A = some ad → m ≤ ad.block) (hr : ∀ n ∈ L, -9223372036854775808 ≤ n ∧ n ≤ 9223372036854775807) (hL : L.length ≤ 1000000000) (hb : (intsX T L).size ≤ 140737488355328) :
    Calls Tryd.prog 18 #[.pointer (some ⟨P, 0, none⟩), .slice A L.length c] W (WroteB w W m P (intsX T L)) := by
  obtain ⟨O, h1, h2⟩ := h
  exact (wint_is h1 A L c hA (off_of h2 hm) hr hL hb).mono fun _ _ g => wroteB hl h2 g
theorem WrB.str (h : WrB w W m P T) : Calls Tryd.prog 10 #[.pointer (some ⟨P, 0, none⟩)] W fun e w' => e = .returned (.string T) ∧ Below W.heap.size W w' := by
  obtain ⟨O, h1, _⟩ := h
  exact str_is h1.wr
/-- The Writer holds T, and nothing that was there has turned. -/
def BkI (w : World) (P : Nat) (T : ByteArray) (W : World) : Prop := WrB w W W.heap.size P T ∧ Below w.heap.size w W
theorem BkI.below (h : BkI w P T W) (hb : Below W.heap.size W V) : BkI w P T V := ⟨(h.1.below hb).top, below_step h.2 hb⟩
end

section
variable {w : World} {A : Option Addr} {n c : Nat} {op : Nat → COp}
end
end Go.Proofs.YthmjeibanofliaaDoor
