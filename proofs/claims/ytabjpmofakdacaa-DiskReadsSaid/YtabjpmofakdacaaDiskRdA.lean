/-
  Words for DiskReads: a map from numbers to texts that the call makes; what is read of a disk that is written and flushed. No conditions.
-/
import Derived.Test.YtabjpmofakdacaaDiskR
import Derived.Maps.OwnOps
import Derived.Maps.Views
import Derived.WalkArith
namespace Go.Proofs.Ytabjpmofakdacaa
open Go.RowKit
open Go.Maps (Keyed IsMap atKey_put_same atKey_put_other isMap_empty int_keyed keyOf_int_mk)

theorem plainElem_string_inv {P : Program} {e : TypeId} (he : P.underlying e = some .string) {v : Value} {z : DataW Unit × List MemPlace} (h : plainElem P e v = some z) : ∃ s : ByteArray, v = .string s ∧ z = (.lit (.string s.data.toList), []) := by
  unfold plainElem at h
  rw [he] at h
  cases v <;> simp at h
  exact ⟨_, rfl, h.2.symm⟩

def lastD (o : Option ByteArray) (zd : DataW Unit) : DataW Unit := match o with
  | some s => .lit (.string s.data.toList)
  | none => zd
/-- Block b is a map of at most q entries, in which L i stands at i. -/
def MapLast (w : World) (P : Program) (k e : TypeId) (b q : Nat) (L : Nat → Option ByteArray) : Prop :=
  ∃ D : DataW Unit, w.ownsMap P k (plainElem P e) b q D ∧ IsMap D ∧ ∀ (i : Nat) zd, D.atKey (.int .i64 i) zd = lastD (L i) zd

section
variable {P : Program} {k e : TypeId} {w w' : World} {b q : Nat} {L : Nat → Option ByteArray}
theorem MapLast.made (w : World) (P : Program) (k e : TypeId) : MapLast (w.alloc (.map #[] 0)) P k e w.heap.size 0 (fun _ => none) :=
  ⟨.map [], World.ownsMap_made w P k _, isMap_empty, fun _ _ => rfl⟩
theorem MapLast.later (h : MapLast w P k e b q L) (hb : Below w.heap.size w w') : MapLast w' P k e b q L := by
  obtain ⟨D, h1, h2, h3⟩ := h
  exact ⟨D, h1.kept (row := none) ⟨hb.os, hb.tape, hb.output, hb.size, fun i hi _ => hb.block i hi⟩ (by simp), h2, h3⟩
theorem MapLast.only {base : Nat} {T : TypeId → Bool} (h : MapLast w P k e b q L) (ho : OnlyT base T w w') : MapLast w' P k e b q L := by
  obtain ⟨D, ⟨es, clock, hb, hr⟩, h2, h3⟩ := h
  exact ⟨D, ⟨es, clock, ho.block b _ hb (.inr fun cs t m e => by cases e), hr⟩, h2, h3⟩
theorem MapLast.isMap (h : MapLast w P k e b q L) : ∃ es clock, w.heap[b]? = some (.map es clock) := by
  obtain ⟨D, ⟨es, clock, hb, _⟩, _⟩ := h
  exact ⟨es, clock, hb⟩
theorem mapLast_put {D : DataW Unit} {a : Nat} {s : ByteArray} (h2 : IsMap D) (h3 : ∀ (i : Nat) zd, D.atKey (.int .i64 i) zd = lastD (L i) zd) (h : w'.ownsMap P k (plainElem P e) b (q + 1) (D.put (.int .i64 a) (.lit (.string s.data.toList)))) : MapLast w' P k e b (q + 1) (fun i => if a = i then some s else L i) := by
  refine ⟨_, h, h2.put _ _, fun i zd => ?_⟩
  show _ = lastD (if a = i then some s else L i) zd
  by_cases hk : a = i
  · subst hk
    rw [if_pos rfl]
    exact atKey_put_same h2 (show WideAt.IsKeyLit (.int .i64 a) from True.intro) _ _
  · rw [if_neg hk, atKey_put_other (fun e => hk (by injection e with _ e; omega))]
    exact h3 i zd

/-- 'v, ok := m[k]', at the operation. -/
theorem wpList_lookup_last (w : World) {ops : Array Oper} {rest : List Oper} {o : Oper} {a : Act} {Q : Exit → Act → World → Prop}
    (hg : o.guard = none) (m x : Operand) (t : TypeId) (hop : o.op = Op.lookup t m x true) (K : Keyed P k) (hk : P.underlying k = some (.int .i64)) (ht : P.underlying t = some (.map k e)) (he : P.underlying e = some .string) (hz : (zeroValue e).run P w = .ok (.string ⟨#[]⟩) w)
    (i : Nat) (hi : i < 8) (hm : a.eval m = .map (some b)) (hown : MapLast w P k e b q L) (hx : a.eval x = .int .i64 i)
    (hK : wpList P ops Q rest (a.put o.dst (.tuple #[.string ((L i).getD ⟨#[]⟩), .bool (L i).isSome])) w) :
    wpList P ops Q (o :: rest) a w := by
  obtain ⟨D, ⟨es, clock, hb, F, _, rfl⟩, _, h3⟩ := hown
  have hkey : keyOf P k (.int .i64 i) = some (.int .i64 (i : Int)) := keyOf_int_mk hk (WalkArith.wf_i64 (by omega))
  refine wpList_plain hg fun K' hK' => ?_
  have hrun : (Instr.lookup t (.map (some b)) (.int .i64 i) true).run P w = .ok (.tuple #[.string ((L i).getD ⟨#[]⟩), .bool (L i).isSome]) w := by
    rcases Maps.fit_look true K ht hz hb F hkey with ⟨hr, _, hat⟩ | ⟨e0, y, _, _, hr, hRv, hat, _⟩
    · have hn : L i = none := by
        cases hL : L i with
        | none => rfl
        | some s =>
          have h4 := hat (.lit (.bool true))
          rw [h3 i, hL] at h4
          cases h4
      rw [hr, hn]
      rfl
    · obtain ⟨s', hv, rfl⟩ := plainElem_string_inv he hRv
      have hs : L i = some s' := by
        cases hL : L i with
        | none =>
          have h4 := hat (.lit (.bool true))
          rw [h3 i, hL] at h4
          cases h4
        | some s =>
          have h4 := hat (.lit (.bool true))
          rw [h3 i, hL] at h4
          simp only [lastD, DataW.lit.injEq, Lit.string.injEq] at h4
          congr 1
          apply ByteArray.ext
          exact Array.toList_inj.1 h4
      rw [hr, hs, hv]
      rfl
  unfold Oper.wp
  simp [execOp, hop, hm, hx, hrun, Result.andThen]
  exact hK' _ _ hK
end

section
variable {w w' : World} {base D b : Nat} {st : Dk}
theorem own_ne_map {e : TypeId} {size n : Nat} {v : Value} {xs : List Value} (h : w.ownsRow base e size v n xs) {es : Array MapEntry} {clock : Nat} (hb : w.heap[b]? = some (.map es clock)) : v.ownBlock = none ∨ v.ownBlock ≠ some b := by
  rcases h.2 with ⟨rfl, _⟩ | ⟨q, cap, cur, rfl, _, hq, _⟩
  · exact .inl rfl
  · refine .inr fun he => ?_
    have : q = b := by simpa [Value.ownBlock] using he
    subst this
    rw [hb] at hq
    cases hq
/-- The disk stays over what is done to a map. -/
theorem diskAt_map (h : DiskAt w base D st) {es : Array MapEntry} {clock : Nat} (hb : w.heap[b]? = some (.map es clock)) (hg : w.grownBy w' (some b)) : DiskAt w' base D st := by
  obtain ⟨S, cv, secs, bb, ⟨h1, h2, h3, h4⟩, hs, hbb⟩ := h
  have ne : ∀ {g : Nat} {cs : Array Value} {t : TypeId} {m : Nat × Nat}, w.heap[g]? = some (.cells cs t m) → w'.heap[g]? = some (.cells cs t m) := fun hg' => by
    rw [hg.block _ (Array.getElem?_eq_some_iff.1 hg').1 (fun e => by injection e with e; rw [e, hb] at hg'; cases hg')]
    exact hg'
  exact ⟨S, cv, secs, bb, ⟨ne h1, ne h2, h3.kept hg (own_ne_map h3 hb), h4⟩, hs, hbb⟩

/-- What is read where all of the first m writes are kept. -/
theorem flush_at {c : List (Int × ByteArray)} {kept : List ByteArray} (hk : ∀ s ∈ kept, s.size = 64) (hc : ∀ x ∈ c, 0 ≤ x.1 ∧ x.1 < kept.length ∧ x.2.size = 64) {i : Nat} (hi : i < kept.length) :
    ∀ m, m ≤ c.length → (keptTo (fun _ => 64) c kept m).getD i ⟨#[]⟩ = readL i (kept.getD i ⟨#[]⟩) (c.take m)
  | 0, _ => rfl
  | m + 1, hm => by
    have ih := flush_at hk hc hi m (by omega)
    have hl := keptTo_len (fun _ => 64) c kept m
    obtain ⟨x, hx⟩ : ∃ x, c[m]? = some x := ⟨_, List.getElem?_eq_getElem (by omega)⟩
    obtain ⟨h0, h1, h2⟩ := hc x (List.mem_of_getElem? hx)
    have hs := keptTo_size (f := fun _ => 64) (fun _ => Nat.le_refl _) hk hc m
    rw [keptTo, hx]
    simp only
    rw [List.take_succ_eq_append_getElem (by omega), readL_snoc]
    have hx' : c[m] = x := (List.getElem?_eq_some_iff.1 hx).2
    rw [hx']
    by_cases e : x.1 = i
    · have e2 : x.1.toNat = i := by omega
      rw [if_pos e, e2, List.getD_eq_getElem?_getD, List.getElem?_set_self (by omega)]
      simp only [Option.getD_some]
      refine tear64 h2 (hs _ ?_)
      have : i < (keptTo (fun _ => 64) c kept m).length := by omega
      simp [this]
    · have e2 : ¬ x.1.toNat = i := by omega
      rw [if_neg e, List.getD_eq_getElem?_getD, List.getElem?_set_ne e2, ← List.getD_eq_getElem?_getD, ih]

/-- The last of k writes at i. -/
def lastF (pl : Nat → Nat) (tx : Nat → ByteArray) : Nat → Nat → Option ByteArray
  | 0, _ => none
  | k + 1, i => if pl k = i then some (fillB (tx k)) else lastF pl tx k i
/-- Behind k writes: what is read at each place. -/
structure RdS (pl : Nat → Nat) (tx : Nat → ByteArray) (k : Nat) (st : Dk) : Prop where
  ok : st.Ok
  off : st.off = false
  armed : st.armed = 0
  kept : st.kept.length = 8
  cache : st.cache.length ≤ k
  writes : st.writes = k
  read : ∀ i : Nat, i < 8 → readS st i = (lastF pl tx k i).getD (zeroB 64)
theorem RdS.readE {pl : Nat → Nat} {tx : Nat → ByteArray} {k : Nat} (h : RdS pl tx k st) {i : Nat} (hi : i < 8) : readE st i = 0 := by
  unfold Go.Proofs.Ytabjpmofakdacaa.readE
  rw [h.off, if_neg (by simp), if_neg (by rw [h.kept]; omega)]
theorem rdS_new {pl : Nat → Nat} {tx : Nat → ByteArray} : RdS pl tx 0 (newS 8) where
  ok := newS_ok (by omega)
  off := rfl
  armed := rfl
  kept := by simp [newS]
  cache := by simp [newS]
  writes := rfl
  read := fun i hi => by
    unfold readS
    rw [show (newS 8).off = false from rfl, if_neg (by simp), if_neg (by simp [newS]; omega)]
    have e : (newS 8).kept.getD ((i : Int)).toNat ⟨#[]⟩ = zeroB 64 := by
      rw [Int.toNat_natCast, List.getD_eq_getElem?_getD]
      show (List.replicate 8 (zeroB 64))[i]?.getD _ = _
      rw [List.getElem?_replicate, if_pos hi]
      rfl
    rw [e]
    rfl
theorem RdS.write {pl : Nat → Nat} {tx : Nat → ByteArray} {k : Nat} (h : RdS pl tx k st) (hp : pl k < 8) : RdS pl tx (k + 1) (writeS st (pl k) (fillB (tx k))) ∧ writeE st (pl k) (fillB (tx k)) = 0 := by
  have ho : outB st (pl k) = false := by simp [outB, h.kept]; omega
  constructor
  · have e : writeS st (pl k) (fillB (tx k)) = putS st (pl k) (fillB (tx k)) := by
      unfold writeS
      rw [h.off, ho, if_neg (by simp), if_neg (by simp), if_neg (by simp [fillB_size]), h.armed, if_neg (by omega)]
    rw [e]
    refine ⟨putS_ok h.ok (by omega) (by rw [h.kept]; omega) (fillB_size _), h.off, ?_, h.kept, ?_, ?_, fun i hi => ?_⟩
    · simp [putS, h.armed]
    · simp only [putS, List.length_append, List.length_cons, List.length_nil]
      have := h.cache
      omega
    · simp only [putS, h.writes]
      omega
    · have hr := h.read i hi
      unfold readS at hr ⊢
      rw [h.off, if_neg (by simp), if_neg (by rw [h.kept]; omega)] at hr
      rw [show (putS st (pl k) (fillB (tx k))).off = false from h.off, if_neg (by simp), if_neg (by rw [show (putS st (pl k) (fillB (tx k))).kept = st.kept from rfl, h.kept]; omega)]
      show readL i (st.kept.getD ((i : Int)).toNat ⟨#[]⟩) (st.cache ++ [((pl k : Int), fillB (tx k))]) = _
      rw [readL_snoc]
      unfold lastF
      by_cases e : pl k = i
      · rw [if_pos e, if_pos (by omega)]
        rfl
      · rw [if_neg e, if_neg (by omega)]
        exact hr
  · unfold writeE
    rw [h.off, ho, if_neg (by simp), if_neg (by simp), if_neg (by simp [fillB_size]), h.armed, if_neg (by omega)]
theorem RdS.flush {pl : Nat → Nat} {tx : Nat → ByteArray} {k : Nat} (h : RdS pl tx k st) : RdS pl tx k (flushS st) ∧ flushE st = 0 := by
  have e : flushS st = { st with kept := keptTo (fun _ => 64) st.cache st.kept st.cache.length, cache := [] } := by simp [flushS, h.off]
  constructor
  · rw [e]
    refine ⟨?_, h.off, h.armed, by simp only [keptTo_len]; exact h.kept, by simp, h.writes, fun i hi => ?_⟩
    · exact { h.ok with size := keptTo_size (fun _ => Nat.le_refl _) h.ok.size h.ok.at_ _, few := by simp only [keptTo_len]; exact h.ok.few, at_ := fun x hx => absurd hx List.not_mem_nil }
    · have hr := h.read i hi
      unfold readS at hr ⊢
      rw [h.off, if_neg (by simp), if_neg (by rw [h.kept]; omega)] at hr
      simp only [h.off, keptTo_len, h.kept]
      rw [if_neg (by simp), if_neg (by omega)]
      rw [Int.toNat_natCast] at hr ⊢
      rw [flush_at h.ok.size h.ok.at_ (by rw [h.kept]; exact hi) st.cache.length (Nat.le_refl _), List.take_length]
      exact hr
  · simp [flushE, h.off]
end

/-- The place of a write. -/
def modF (p : Int) : Nat := (IntKind.u64.wrap p % 8).toNat
theorem modF_is (p : Int) : wrap64 ((IntKind.u64.wrap p).tmod 8) = modF p ∧ modF p < 8 := by
  have h0 : 0 ≤ IntKind.u64.wrap p := by rw [IntKind.wrap_u64]; omega
  have e : (IntKind.u64.wrap p).tmod 8 = IntKind.u64.wrap p % 8 := Int.tmod_eq_emod_of_nonneg h0
  rw [e]
  unfold modF
  generalize IntKind.u64.wrap p = z at h0
  refine ⟨?_, by omega⟩
  unfold wrap64
  omega
end Go.Proofs.Ytabjpmofakdacaa
