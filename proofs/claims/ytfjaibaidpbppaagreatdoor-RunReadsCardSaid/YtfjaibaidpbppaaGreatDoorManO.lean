/-
  A pipeline's text: it is read as it was. Plain facts: no program is named here.
-/
import Derived.Test.YtfjaibaidpbppaaGreatDoorRnP
namespace Go.Proofs.YtfjaibaidpbppaaGreatDoor

/-- Words with a byte between them; a line; digits of a number up to 999. -/
def joinC (c : UInt8) : List ByteArray → List UInt8
  | [] => []
  | [w] => bl w
  | w :: v :: r => bl w ++ c :: joinC c (v :: r)
def lineB (ws : List ByteArray) : List UInt8 := joinC 32 ws ++ [10]
def digL (n : Nat) : List UInt8 := if n < 10 then [(48 + n).toUInt8] else if n < 100 then [(48 + n / 10).toUInt8, (48 + n % 10).toUInt8] else [(48 + n / 100).toUInt8, (48 + n / 10 % 10).toUInt8, (48 + n % 10).toUInt8]
def mdigB (n : Int) : ByteArray := ofL (digL n.toNat)
/-- A task's line, word by word; a pipeline's lines; its text. -/
def aftB (names : List ByteArray) (a : List Nat) : ByteArray := ofL (joinC 44 (a.map fun j => names.getD j .empty))
def aftW (names : List ByteArray) (a : List Nat) : List ByteArray := if a = [] then [] else [sAfter, aftB names a]
def retW (n : Int) : List ByteArray := if 0 < n then [sRetry, mdigB n] else []
def gateW (t : TkP) : List ByteArray := if 0 < t.need then [sTo, strOfNums (textN t.lv t.st), sNeed, mdigB t.need] else []
def taskW (names : List ByteArray) (t : TkP) : List ByteArray := (if 0 < t.need then sGate else sTask) :: t.name :: (aftW names t.after ++ (retW t.retry ++ (gateW t ++ [sTime, mdigB t.time])))
def textW (p : PiP) : List (List ByteArray) := [sPipe, p.name] :: p.tasks.map (taskW (p.tasks.map (·.name)))
def textP (p : PiP) : ByteArray := ofL ((textW p).flatMap lineB)

/-! ### The lines of such a text -/
def WordOk (w : ByteArray) : Prop := w ≠ .empty ∧ ∀ b ∈ bl w, isW b.toNat = true
theorem goW_grow : ∀ (v : List UInt8) (o : List (List Wd)) (l : List Wd) (u : ByteArray) (a k : Nat), u ≠ .empty → (∀ b ∈ v, isW b.toNat = true) → goW v k ⟨o, l, u, a⟩ = .inr ⟨o, l, u ++ ofL v, a⟩
  | [], o, l, u, a, k, _, _ => by
    have : u ++ ofL [] = u := by apply bl_inj; rw [bl_append, bl_ofL, List.append_nil]
    rw [this]
    rfl
  | b :: v, o, l, u, a, k, hu, hv => by
    have hu2 : u ++ ofL [b] ≠ .empty := fun e => by
      have := congrArg ByteArray.size e
      rw [ByteArray.size_append, ofL_size] at this
      simp at this
    rw [goW, stepW, if_pos (hv b (by simp)), push_more hu]
    dsimp only
    rw [goW_grow v o l _ a (k + 1) hu2 (fun c hc => hv c (by simp [hc]))]
    congr 2
    apply bl_inj
    rw [bl_append, bl_append, bl_append, bl_ofL, bl_ofL, bl_ofL, List.append_assoc]
    rfl
theorem goW_word {w : ByteArray} (hw : WordOk w) (o : List (List Wd)) (l : List Wd) (a k : Nat) : goW (bl w) k ⟨o, l, .empty, a⟩ = .inr ⟨o, l, w, k⟩ := by
  obtain ⟨h1, h2⟩ := hw
  cases hb : bl w with
  | nil => exact absurd (bl_inj hb) h1
  | cons b v =>
    rw [hb] at h2
    have hne : ofL [b] ≠ .empty := fun e => by
      have := congrArg ByteArray.size e
      rw [ofL_size] at this
      simp at this
    rw [goW, stepW, if_pos (h2 b (by simp)), push_empty]
    dsimp only
    rw [goW_grow v o l _ k (k + 1) hne (fun c hc => h2 c (by simp [hc]))]
    congr 2
    apply bl_inj
    rw [bl_append, bl_ofL, bl_ofL, hb]
    rfl
theorem goW_join : ∀ (ws : List ByteArray) (o : List (List Wd)) (l0 : List Wd) (a k : Nat), ws ≠ [] → (∀ w ∈ ws, WordOk w) → ∃ l st, goW (joinC 32 ws) k ⟨o, l0, .empty, a⟩ = .inr st ∧ st.feed = ⟨o ++ [l0 ++ l], [], .empty, 0⟩ ∧ l.map (·.t) = ws
  | [], o, l0, a, k, h, _ => absurd rfl h
  | [w], o, l0, a, k, _, hw => by
    have h1 := hw w (by simp)
    exact ⟨[⟨w, k⟩], _, goW_word h1 o l0 a k, feed_more h1.1, rfl⟩
  | w :: v :: r, o, l0, a, k, _, hw => by
    have h1 := hw w (by simp)
    obtain ⟨l, st, h2, h3, h4⟩ := goW_join (v :: r) o (l0 ++ [⟨w, k⟩]) 0 (k + (bl w).length + 1) (by simp) (fun x hx => hw x (by simp at hx ⊢; simp [hx]))
    refine ⟨⟨w, k⟩ :: l, st, ?_, by rw [h3]; simp, by simp [h4]⟩
    rw [joinC, goW_more (goW_word h1 o l0 a k), goW]
    have h5 : stepW 32 (k + (bl w).length) ⟨o, l0, w, k⟩ = some ⟨o, l0 ++ [⟨w, k⟩], .empty, 0⟩ := by
      rw [stepW, if_neg (by decide), if_neg (by decide), if_pos (by decide), space_more h1.1]
    rw [h5]
    exact h2
theorem goW_line {ws : List ByteArray} (hne : ws ≠ []) (hw : ∀ w ∈ ws, WordOk w) (o : List (List Wd)) (a k : Nat) : ∃ l, goW (lineB ws) k ⟨o, [], .empty, a⟩ = .inr ⟨o ++ [l], [], .empty, 0⟩ ∧ l.map (·.t) = ws := by
  obtain ⟨l, st, h1, h2, h3⟩ := goW_join ws o [] a k hne hw
  refine ⟨l, ?_, h3⟩
  rw [lineB, goW_more h1, goW, stepW, if_neg (by decide), if_pos (by decide)]
  show goW [] _ st.feed = _
  rw [h2]
  rfl
theorem goW_lines : ∀ (lines : List (List ByteArray)) (o : List (List Wd)) (a k : Nat), (∀ l ∈ lines, l ≠ [] ∧ ∀ w ∈ l, WordOk w) → ∃ L a', goW (lines.flatMap lineB) k ⟨o, [], .empty, a⟩ = .inr ⟨o ++ L, [], .empty, a'⟩ ∧ L.map (·.map (·.t)) = lines
  | [], o, a, k, _ => ⟨[], a, by simp [goW], rfl⟩
  | ws :: lines, o, a, k, h => by
    obtain ⟨h1, h2⟩ := h ws (by simp)
    obtain ⟨l, h3, h4⟩ := goW_line h1 h2 o a k
    obtain ⟨L, a', h5, h6⟩ := goW_lines lines (o ++ [l]) 0 (k + (lineB ws).length) (fun x hx => h x (by simp [hx]))
    refine ⟨l :: L, a', ?_, by rw [List.map_cons, h4, h6]⟩
    rw [List.flatMap_cons, goW_more h3, h5, List.append_assoc]
    rfl
theorem lex_lines {lines : List (List ByteArray)} (h : ∀ l ∈ lines, l ≠ [] ∧ ∀ w ∈ l, WordOk w) (hz : (ofL (lines.flatMap lineB)).size ≤ 600) : ∃ L, lexP (ofL (lines.flatMap lineB)) = .good L ∧ L.map (·.map (·.t)) = lines := by
  obtain ⟨L, a', h1, h2⟩ := goW_lines lines [] 0 0 h
  refine ⟨L, ?_, h2⟩
  have h3 : goW (bl (ofL (lines.flatMap lineB))) 0 lx0 = .inr ⟨[] ++ L, [], .empty, a'⟩ := h1
  rw [lexP_goW hz, h3, endW, feed_none, List.nil_append]

/-! ### Values there and back -/
theorem nameOk_bytes {w : ByteArray} (h : nameOk w) : ∀ b ∈ bl w, 97 ≤ b.toNat ∧ b.toNat ≤ 122 := by
  intro b hb
  obtain ⟨j, hj, rfl⟩ := List.mem_iff_getElem.1 hb
  have h2 := h.2.2 j (by rw [← bl_len]; exact hj)
  unfold byL at h2
  rw [List.getD_eq_getElem?_getD, List.getElem?_eq_getElem hj] at h2
  simp at h2
  omega
theorem word_name {w : ByteArray} (h : nameOk w) : WordOk w := by
  refine ⟨fun e => ?_, fun b hb => ?_⟩
  · have := h.1
    rw [e] at this
    simp at this
  · have := nameOk_bytes h b hb
    simp [isW]
    omega
theorem digL_ok : ∀ n : Fin 101, numOk (ofL (digL n)) ∧ valN (ofL (digL n)) (ofL (digL n)).size = ((n : Nat) : Int) ∧ (∀ b ∈ digL n, isW b.toNat = true) := by decide
theorem num_dig {n lo hi : Int} (h0 : 0 ≤ n) (h1 : n ≤ 100) (hl : lo ≤ n) (hh : n ≤ hi) : numP (mdigB n) lo hi = some n := by
  obtain ⟨k1, k2, _⟩ := digL_ok ⟨n.toNat, by omega⟩
  have k3 : ((n.toNat : Nat) : Int) = n := by omega
  dsimp only at k1 k2
  rw [k3] at k2
  unfold numP mdigB
  rw [k2, if_pos ⟨k1, hl, hh⟩]
theorem word_dig {n : Int} (h0 : 0 ≤ n) (h1 : n ≤ 100) : WordOk (mdigB n) := by
  obtain ⟨k1, _, k3⟩ := digL_ok ⟨n.toNat, by omega⟩
  refine ⟨fun e => ?_, k3⟩
  have h2 : 1 ≤ (mdigB n).size := k1.1
  rw [e] at h2
  simp at h2
theorem lab_text {l t : Int} (h0 : 0 ≤ l) (h7 : l ≤ 7) (ht : SetN t) : labP (strOfNums (textN l t)) = some (l, t) := by
  obtain ⟨h1, h2, h3⟩ := text_good _ h0 h7 ht rfl
  unfold labP
  rw [if_pos h1, h2, h3]
theorem hexC_word : ∀ d : Fin 16, isW (hexC ((d : Nat) : Int)).toNat.toUInt8.toNat = true := by decide
theorem word_lab {l t : Int} (h0 : 0 ≤ l) (h7 : l ≤ 7) : WordOk (strOfNums (textN l t)) := by
  have hx : ∀ d : Int, 0 ≤ d → d < 16 → isW (UInt8.ofNat (hexC d).toNat).toNat = true := fun d d0 d1 => by
    have := hexC_word ⟨d.toNat, by omega⟩
    dsimp only at this
    rw [show ((d.toNat : Nat) : Int) = d by omega] at this
    exact this
  refine ⟨fun e => ?_, fun b hb => ?_⟩
  · have := congrArg ByteArray.size e
    have h6 : (strOfNums (textN l t)).size = 6 := rfl
    rw [h6] at this
    simp at this
  · have hb2 : b ∈ (textN l t).map (fun n => UInt8.ofNat n.toNat) := by simpa [strOfNums, bl] using hb
    obtain ⟨n, hn, rfl⟩ := List.mem_map.1 hb2
    simp only [textN, List.mem_cons, List.not_mem_nil, or_false] at hn
    rcases hn with rfl | rfl | rfl | rfl | rfl | rfl
    · exact hx _ (by omega) (by omega)
    · decide
    · exact hx _ (by omega) (by omega)
    · exact hx _ (by omega) (by omega)
    · exact hx _ (by omega) (by omega)
    · exact hx _ (by omega) (by omega)
theorem joinL_bytes {c : UInt8} {P : UInt8 → Prop} (hc : P c) : ∀ (ws : List ByteArray), (∀ w ∈ ws, ∀ b ∈ bl w, P b) → ∀ b ∈ joinC c ws, P b
  | [], _ => fun b hb => absurd hb (by simp [joinC])
  | [w], h => fun b hb => h w (by simp) b hb
  | w :: v :: r, h => fun b hb => by
    rw [joinC] at hb
    rcases List.mem_append.1 hb with hb | hb
    · exact h w (by simp) b hb
    · rcases List.mem_cons.1 hb with rfl | hb
      · exact hc
      · exact joinL_bytes hc (v :: r) (fun x hx => h x (by simp at hx ⊢; simp [hx])) b hb
theorem joinL_some {c : UInt8} {w : ByteArray} {r : List ByteArray} (h : w ≠ .empty) : joinC c (w :: r) ≠ [] := by
  cases r with
  | nil => exact fun e => h (bl_inj e)
  | cons v r =>
    intro e
    rw [joinC] at e
    simp at e
theorem word_names {ns : List ByteArray} (hne : ns ≠ []) (h : ∀ n ∈ ns, nameOk n) : WordOk (ofL (joinC 44 ns)) := by
  cases ns with
  | nil => exact absurd rfl hne
  | cons w r =>
    refine ⟨fun e => joinL_some (word_name (h w (by simp))).1 (by have := congrArg bl e; exact this), ?_⟩
    exact joinL_bytes (c := 44) (P := fun b => isW b.toNat = true) (by decide) _ (fun x hx b hb => (word_name (h x hx)).2 b hb)
theorem name_yes {n : ByteArray} (h : nameOk n) : nameP n = true := decide_eq_true h
theorem names_scan (s : ByteArray) (p fr f : Nat) (out : List Wd) : ∀ (j i : Nat), (∀ u, i ≤ u → u < i + j → byL s u ≠ 44) → namesGo s p (f + j) fr i out = namesGo s p f fr (i + j) out
  | 0, i, _ => rfl
  | j + 1, i, h => by
    rw [show f + (j + 1) = (f + j) + 1 by omega, namesGo_on (h i (Nat.le_refl _) (by omega)), names_scan s p fr f out j (i + 1) (fun u h1 h2 => h u (by omega) (by omega)), show i + 1 + j = i + (j + 1) by omega]
theorem byL_ofL {A B : List UInt8} {w : ByteArray} {u : Nat} (h : u < w.size) : byL (ofL (A ++ (bl w ++ B))) (A.length + u) = byL w u := by
  have h2 : u < (bl w).length := by rw [bl_len]; exact h
  unfold byL
  rw [bl_ofL, List.getD_eq_getElem?_getD, List.getD_eq_getElem?_getD, List.getElem?_append_right (by omega), show A.length + u - A.length = u by omega, List.getElem?_append_left h2]
theorem extract_ofL {A B : List UInt8} {w : ByteArray} : (ofL (A ++ (bl w ++ B))).extract A.length (A.length + w.size) = w := by
  apply bl_inj
  rw [bl_mid, bl_ofL, mid_right _ _ (Nat.le_refl _), Nat.sub_self, mid_here _ _ (bl_len w)]
theorem names_go (p : Nat) : ∀ (ns : List ByteArray) (A : List UInt8) (out : List Wd), ns ≠ [] → (∀ n ∈ ns, nameOk n) → ∃ l, namesGo (ofL (A ++ joinC 44 ns)) p (joinC 44 ns).length A.length A.length out = .inl (out ++ l) ∧ l.map (·.t) = ns
  | [], A, out, h, _ => absurd rfl h
  | [n], A, out, _, h => by
    have hn := h n (by simp)
    refine ⟨[⟨n, p + A.length⟩], ?_, rfl⟩
    have he : joinC 44 [n] = bl n ++ [] := by rw [joinC, List.append_nil]
    have hl : (joinC 44 [n]).length = 0 + n.size := by rw [joinC, bl_len, Nat.zero_add]
    rw [hl, he, names_scan _ p A.length 0 out n.size A.length (fun u h1 h2 => by
      have h3 := byL_ofL (A := A) (B := []) (w := n) (u := u - A.length) (by omega)
      rw [show A.length + (u - A.length) = u by omega] at h3
      have h4 := hn.2.2 (u - A.length) (by omega)
      omega), namesGo_end, extract_ofL, if_pos (name_yes hn)]
  | n :: v :: r, A, out, _, h => by
    have hn := h n (by simp)
    obtain ⟨l, h1, h2⟩ := names_go p (v :: r) (A ++ bl n ++ [44]) (out ++ [⟨n, p + A.length⟩]) (by simp) (fun x hx => h x (by simp at hx ⊢; simp [hx]))
    refine ⟨⟨n, p + A.length⟩ :: l, ?_, by simp [h2]⟩
    have hl : (joinC 44 (n :: v :: r)).length = ((joinC 44 (v :: r)).length + 1) + n.size := by
      rw [joinC, List.length_append, List.length_cons, bl_len]
      omega
    have hc : byL (ofL (A ++ (bl n ++ 44 :: joinC 44 (v :: r)))) (A.length + n.size) = 44 := by
      unfold byL
      rw [bl_ofL, List.getD_eq_getElem?_getD, List.getElem?_append_right (by omega), show A.length + n.size - A.length = n.size by omega, List.getElem?_append_right (by rw [bl_len]; omega), bl_len, Nat.sub_self]
      rfl
    have hA : (A ++ bl n ++ [44]).length = A.length + n.size + 1 := by
      rw [List.length_append, List.length_append, bl_len]
      rfl
    have hs : A ++ bl n ++ [44] ++ joinC 44 (v :: r) = A ++ (bl n ++ 44 :: joinC 44 (v :: r)) := by simp
    rw [hA, hs] at h1
    rw [hl, joinC, names_scan _ p A.length _ out n.size A.length (fun u h1 h2 => by
      have h3 := byL_ofL (A := A) (B := 44 :: joinC 44 (v :: r)) (w := n) (u := u - A.length) (by omega)
      rw [show A.length + (u - A.length) = u by omega] at h3
      have h4 := hn.2.2 (u - A.length) (by omega)
      omega), namesGo_comma hc, extract_ofL, if_pos (name_yes hn), h1, List.append_assoc]
    rfl
theorem names_join {ns : List ByteArray} {p : Nat} (hne : ns ≠ []) (h : ∀ n ∈ ns, nameOk n) : ∃ l, namesP ⟨ofL (joinC 44 ns), p⟩ = .inl l ∧ l.map (·.t) = ns := by
  obtain ⟨l, h1, h2⟩ := names_go p ns [] [] hne h
  refine ⟨l, ?_, h2⟩
  unfold namesP
  rw [List.nil_append, List.nil_append] at h1
  dsimp only
  rw [ofL_size]
  exact h1
theorem dupGo_nodup (l : List Wd) (h : (l.map (·.t)).Nodup) : ∀ (f i : Nat), i + f ≤ l.length → dupGo l f i = none
  | 0, i, _ => rfl
  | f + 1, i, hi => by
    have hlt : i < l.length := by omega
    have h4 : l.getD i default = l[i] := by rw [List.getD_eq_getElem?_getD, List.getElem?_eq_getElem hlt]; rfl
    have hm : memB (l[i]).t ((l.take i).map (·.t)) = false := by
      cases hb : memB (l[i]).t ((l.take i).map (·.t)) with
      | false => rfl
      | true =>
        obtain ⟨y, hy, e⟩ := List.mem_map.1 (memB_iff.1 hb)
        obtain ⟨j, hj, rfl⟩ := List.mem_take_iff_getElem.1 hy
        have hj1 : j < i := by omega
        rw [List.nodup_iff_pairwise_ne, List.pairwise_iff_getElem] at h
        have := h j i (by rw [List.length_map]; omega) (by rw [List.length_map]; omega) hj1
        rw [List.getElem_map, List.getElem_map] at this
        exact absurd e this
    rw [dupGo, h4, hm]
    simp only [Bool.false_eq_true, if_false]
    exact dupGo_nodup l h f (i + 1) (by omega)
theorem dup_nodup {l : List Wd} (h : (l.map (·.t)).Nodup) : dupP l = none := dupGo_nodup l h _ 0 (by omega)
theorem find_at {names : List ByteArray} (hd : names.Nodup) {j : Nat} (hj : j < names.length) : findP names (names.getD j .empty) = some j := by
  have h4 : names.getD j .empty = names[j] := by rw [List.getD_eq_getElem?_getD, List.getElem?_eq_getElem hj]; rfl
  rw [h4]
  unfold findP
  rw [List.findIdx?_eq_some_iff_getElem]
  refine ⟨hj, decide_eq_true rfl, fun i hi => ?_⟩
  rw [List.nodup_iff_pairwise_ne, List.pairwise_iff_getElem] at hd
  have := hd i j (by omega) hj hi
  simpa using this

/-! ### A line, a text, read -/
theorem cons_t {l : List Wd} {a : ByteArray} {r : List ByteArray} (h : l.map (·.t) = a :: r) : ∃ p l', l = ⟨a, p⟩ :: l' ∧ l'.map (·.t) = r := by
  cases l with
  | nil => cases h
  | cons x l =>
    rw [List.map_cons] at h
    injection h with h1 h2
    exact ⟨x.p, l, by rw [← h1], h2⟩
theorem pair_go {g : Bool} {seen : List ByteArray} {x x' : LnP} {word v : ByteArray} {rest : List ByteArray} {l : List Wd} (hm : memB word (wordsP g) = true) (hs : memB word seen = false) (hv : ∀ p, valueP x word ⟨v, p⟩ = .inr x') (hl : l.map (·.t) = word :: v :: rest) : ∃ l', l'.map (·.t) = rest ∧ pairsP g seen x l = pairsP g (seen ++ [word]) x' l' := by
  obtain ⟨p, l1, rfl, h1⟩ := cons_t hl
  obtain ⟨q, l2, rfl, h2⟩ := cons_t h1
  refine ⟨l2, h2, ?_⟩
  rw [pairsP, if_neg (by rw [hm]; decide), if_neg (by rw [hs]; decide), hv q]
theorem pairs_aft {g : Bool} {seen : List ByteArray} {x : LnP} {names : List ByteArray} {a : List Nat} {l : List Wd} {rest : List ByteArray} (hn : ∀ j ∈ a, nameOk (names.getD j .empty)) (hd : (a.map fun j => names.getD j .empty).Nodup) (hs : memB sAfter seen = false) (hx : x.after = []) (hl : l.map (·.t) = aftW names a ++ rest) :
    ∃ la l', l'.map (·.t) = rest ∧ la.map (·.t) = (a.map fun j => names.getD j .empty) ∧ pairsP g seen x l = pairsP g (seen ++ (if a = [] then [] else [sAfter])) { x with after := la } l' := by
  by_cases ha : a = []
  · subst ha
    refine ⟨[], l, hl, rfl, ?_⟩
    rw [if_pos rfl, List.append_nil]
    cases x
    dsimp only at hx
    rw [hx]
  · obtain ⟨p, l1, rfl, h1⟩ := cons_t (a := sAfter) (r := aftB names a :: rest) (by rw [hl, aftW, if_neg ha]; rfl)
    obtain ⟨q, l2, rfl, h2⟩ := cons_t h1
    obtain ⟨la, h3, h4⟩ := names_join (ns := a.map fun j => names.getD j .empty) (p := q) (by simpa using ha) (fun n hn2 => by
      obtain ⟨j, hj, rfl⟩ := List.mem_map.1 hn2
      exact hn j hj)
    refine ⟨la, l2, h2, h4, ?_⟩
    have hm : memB sAfter (wordsP g) = true := by cases g <;> decide
    rw [if_neg ha, pairsP, if_neg (by rw [hm]; decide), if_neg (by rw [hs]; decide)]
    have h5 : valueP x sAfter ⟨aftB names a, q⟩ = .inr { x with after := la } := by
      have h6 : namesP ⟨aftB names a, q⟩ = .inl la := h3
      rw [valueP, if_pos rfl, h6]
      dsimp only
      rw [dup_nodup (by rw [h4]; exact hd)]
    dsimp only
    rw [h5]
theorem pairs_ret {seen : List ByteArray} {x : LnP} {n : Int} {l : List Wd} {rest : List ByteArray} (h0 : 0 ≤ n) (h5 : n ≤ 5) (hs : memB sRetry seen = false) (hx : x.retry = 0) (hl : l.map (·.t) = retW n ++ rest) :
    ∃ l', l'.map (·.t) = rest ∧ pairsP false seen x l = pairsP false (seen ++ (if 0 < n then [sRetry] else [])) { x with retry := n } l' := by
  by_cases hn : 0 < n
  · rw [retW, if_pos hn] at hl
    rw [if_pos hn]
    exact pair_go (x' := { x with retry := n }) (by decide) hs (fun p => by rw [valueP, if_neg (by decide), if_neg (by decide), if_pos rfl, num_dig h0 (by omega) h0 h5]) hl
  · obtain rfl : n = 0 := by omega
    rw [retW, if_neg hn] at hl
    refine ⟨l, hl, ?_⟩
    rw [if_neg hn, List.append_nil]
    cases x
    dsimp only at hx
    rw [hx]
theorem pairs_gate {seen : List ByteArray} {x : LnP} {t : TkP} {l : List Wd} {rest : List ByteArray} (h0 : 0 < t.need) (h4 : t.need ≤ 4) (hlab : 0 ≤ t.lv ∧ t.lv ≤ 7 ∧ 0 ≤ t.st ∧ t.st ≤ 65535) (hs : memB sTo seen = false) (hs2 : memB sNeed (seen ++ [sTo]) = false) (hl : l.map (·.t) = gateW t ++ rest) :
    ∃ l', l'.map (·.t) = rest ∧ pairsP true seen x l = pairsP true (seen ++ [sTo] ++ [sNeed]) { x with lv := t.lv, st := t.st, need := t.need } l' := by
  rw [gateW, if_pos h0] at hl
  obtain ⟨l1, h1, e1⟩ := pair_go (g := true) (seen := seen) (x := x) (x' := { x with lv := t.lv, st := t.st }) (by decide) hs (fun p => by rw [valueP, if_neg (by decide), if_pos rfl, lab_text hlab.1 hlab.2.1 ⟨hlab.2.2.1, by omega⟩]) hl
  obtain ⟨l2, h2, e2⟩ := pair_go (g := true) (seen := seen ++ [sTo]) (x := { x with lv := t.lv, st := t.st }) (x' := { x with lv := t.lv, st := t.st, need := t.need }) (by decide) hs2 (fun p => by rw [valueP, if_neg (by decide), if_neg (by decide), if_neg (by decide), if_neg (by decide), if_pos rfl, num_dig (by omega) (by omega) (by omega) h4]) h1
  exact ⟨l2, h2, e1.trans e2⟩
theorem pairs_time {g : Bool} {seen : List ByteArray} {x : LnP} {n : Int} {l : List Wd} (h0 : 1 ≤ n) (h5 : n ≤ 100) (hs : memB sTime seen = false) (hl : l.map (·.t) = [sTime, mdigB n]) : pairsP g seen x l = .inr ({ x with time := n }, seen ++ [sTime]) := by
  obtain ⟨l1, h1, e1⟩ := pair_go (g := g) (seen := seen) (x := x) (x' := { x with time := n }) (by cases g <;> decide) hs (fun p => by rw [valueP, if_neg (by decide), if_neg (by decide), if_neg (by decide), if_pos rfl, num_dig (by omega) h5 h0 h5]) hl
  obtain rfl : l1 = [] := by simpa using h1
  rw [e1, pairsP]
/-- A line's task is the pipeline's. -/
structure LnIs (names : List ByteArray) (x : LnP) (t : TkP) : Prop where
  name : x.name = t.name
  retry : x.retry = t.retry
  time : x.time = t.time
  need : x.need = t.need
  lv : x.lv = t.lv
  st : x.st = t.st
  after : x.after.map (·.t) = t.after.map fun j => names.getD j .empty
theorem line_go {k nm : ByteArray} {p0 p1 : Nat} {l2 : List Wd} {ahead : List ByteArray} (h8 : ahead.length ≠ 8) (hk : k = sTask ∨ k = sGate) (hn : nameOk nm) (hm : nm ∉ ahead) :
    lineP (⟨k, p0⟩ :: ⟨nm, p1⟩ :: l2) ahead = match pairsP (decide (k = sGate)) [] (ln0 nm) l2 with
      | .inl e => .inl e
      | .inr (x, seen) => if k = sGate ∧ (memB sTo seen = false ∨ memB sNeed seen = false) then .inl ⟨3, p0⟩ else .inr x := by
  have hmem : memB nm ahead = false := by
    cases hb : memB nm ahead with
    | false => rfl
    | true => exact absurd (memB_iff.1 hb) hm
  have e0 : (⟨k, p0⟩ :: ⟨nm, p1⟩ :: l2 : List Wd).getD 0 default = ⟨k, p0⟩ := rfl
  have e1 : (⟨k, p0⟩ :: ⟨nm, p1⟩ :: l2 : List Wd).getD 1 default = ⟨nm, p1⟩ := rfl
  have e2 : (⟨k, p0⟩ :: ⟨nm, p1⟩ :: l2 : List Wd).drop 2 = l2 := rfl
  unfold lineP
  rw [e0, e1, e2]
  dsimp only
  rw [if_neg h8, if_neg (by rcases hk with rfl | rfl <;> simp), if_neg (by simp), if_neg (by rw [name_yes hn]; decide), if_neg (by rw [hmem]; decide)]
  generalize pairsP (decide (k = sGate)) [] (ln0 nm) l2 = r
  cases r with
  | inl e => rfl
  | inr y =>
    obtain ⟨x, seen⟩ := y
    rfl
theorem line_text {n : Nat} {t : TkP} {names ahead : List ByteArray} {l : List Wd} (ht : TaskOk n t) (hn : names.length = n) (hok : ∀ j, j < n → nameOk (names.getD j .empty)) (hd : names.Nodup) (h8 : ahead.length ≠ 8) (hnew : t.name ∉ ahead) (hl : l.map (·.t) = taskW names t) : ∃ x, lineP l ahead = .inr x ∧ LnIs names x t := by
  obtain ⟨p0, l1, rfl, h1⟩ := cons_t hl
  obtain ⟨p1, l2, rfl, h2⟩ := cons_t h1
  have hdn : (t.after.map fun j => names.getD j .empty).Nodup := by
    rw [List.nodup_iff_pairwise_ne, List.pairwise_map]
    have h3 := ht.aft.2
    rw [List.nodup_iff_pairwise_ne] at h3
    refine h3.imp_of_mem (fun {a b} ha hb hab e => hab ?_)
    have ea := find_at hd (hn ▸ ht.aft.1 a ha)
    have eb := find_at hd (hn ▸ ht.aft.1 b hb)
    rw [e, eb] at ea
    injection ea with ea
    exact ea.symm
  rw [line_go h8 (by split <;> simp) ht.name hnew]
  by_cases hg : 0 < t.need
  · rw [if_pos hg]
    have hr := ht.gate hg
    have h2' : l2.map (·.t) = aftW names t.after ++ (gateW t ++ [sTime, mdigB t.time]) := by
      rw [h2, hr]
      rfl
    obtain ⟨la, l3, h3, h4, e1⟩ := pairs_aft (g := true) (seen := []) (x := ln0 t.name) (fun j hj => hok j (ht.aft.1 j hj)) hdn (by decide) rfl h2'
    obtain ⟨l4, h5, e2⟩ := pairs_gate (seen := [] ++ (if t.after = [] then [] else [sAfter])) (x := { ln0 t.name with after := la }) hg ht.need.2 ht.lab (by split <;> decide) (by split <;> decide) h3
    have e3 := pairs_time (g := true) (seen := [] ++ (if t.after = [] then [] else [sAfter]) ++ [sTo] ++ [sNeed]) (x := { ln0 t.name with after := la, lv := t.lv, st := t.st, need := t.need }) ht.time.1 ht.time.2 (by split <;> decide) h5
    have hgt : decide (sGate = sGate) = true := decide_eq_true rfl
    rw [hgt, e1, e2, e3]
    dsimp only
    rw [if_neg (by
      rintro ⟨_, h | h⟩
      · revert h
        split <;> decide
      · revert h
        split <;> decide)]
    exact ⟨_, rfl, rfl, hr.symm, rfl, rfl, rfl, rfl, h4⟩
  · rw [if_neg hg]
    have hz : t.need = 0 := by have := ht.need.1; omega
    have hp := ht.plain hz
    have h2' : l2.map (·.t) = aftW names t.after ++ (retW t.retry ++ [sTime, mdigB t.time]) := by
      rw [h2, gateW, if_neg hg]
      rfl
    obtain ⟨la, l3, h3, h4, e1⟩ := pairs_aft (g := false) (seen := []) (x := ln0 t.name) (fun j hj => hok j (ht.aft.1 j hj)) hdn (by decide) rfl h2'
    obtain ⟨l4, h5, e2⟩ := pairs_ret (seen := [] ++ (if t.after = [] then [] else [sAfter])) (x := { ln0 t.name with after := la }) ht.retry.1 ht.retry.2 (by split <;> decide) rfl h3
    have e3 := pairs_time (g := false) (seen := [] ++ (if t.after = [] then [] else [sAfter]) ++ (if 0 < t.retry then [sRetry] else [])) (x := { ln0 t.name with after := la, retry := t.retry }) ht.time.1 ht.time.2 (by split <;> split <;> decide) h5
    have hgt : decide (sTask = sGate) = false := by decide
    rw [hgt, e1, e2, e3]
    dsimp only
    rw [if_neg (by rintro ⟨h, _⟩; revert h; decide)]
    exact ⟨_, rfl, rfl, rfl, rfl, hz.symm, hp.1.symm, hp.2.symm, h4⟩
inductive LnsAre (names : List ByteArray) : List LnP → List TkP → Prop where
  | nil : LnsAre names [] []
  | cons {x : LnP} {t : TkP} {xs : List LnP} {ts : List TkP} : LnIs names x t → LnsAre names xs ts → LnsAre names (x :: xs) (t :: ts)
theorem LnsAre.names {names : List ByteArray} {xs : List LnP} {ts : List TkP} (h : LnsAre names xs ts) : xs.map (·.name) = ts.map (·.name) := by
  induction h with
  | nil => rfl
  | cons hi _ ih => rw [List.map_cons, List.map_cons, hi.name, ih]
theorem lines_text {n : Nat} {names : List ByteArray} (hn : names.length = n) (hn8 : n ≤ 8) (hok : ∀ j, j < n → nameOk (names.getD j .empty)) (hd : names.Nodup) : ∀ (ts : List TkP) (acc : List LnP) (L : List (List Wd)), (∀ t ∈ ts, TaskOk n t) → acc.map (·.name) ++ ts.map (·.name) = names → L.map (·.map (·.t)) = ts.map (taskW names) → ∃ xs, linesP acc L = .inr (acc ++ xs) ∧ LnsAre names xs ts
  | [], acc, L, _, _, hL => by
    obtain rfl : L = [] := by simpa using hL
    exact ⟨[], by simp [linesP], .nil⟩
  | t :: ts, acc, L, ht, hnm, hL => by
    cases L with
    | nil => cases hL
    | cons l L =>
      rw [List.map_cons, List.map_cons] at hL
      injection hL with h1 h2
      have hlen : acc.length + (ts.length + 1) = n := by
        rw [← hn, ← hnm]
        simp
      have hnew : t.name ∉ acc.map (·.name) := fun h => by
        rw [← hnm, List.nodup_append] at hd
        exact hd.2.2 _ h _ (by simp) rfl
      obtain ⟨x, hx, hi⟩ := line_text (ahead := acc.map (·.name)) (ht t (by simp)) hn hok hd (by rw [List.length_map]; omega) hnew h1
      obtain ⟨xs, h3, h4⟩ := lines_text hn hn8 hok hd ts (acc ++ [x]) L (fun u hu => ht u (by simp [hu])) (by rw [← hnm]; simp [hi.name]) h2
      refine ⟨x :: xs, ?_, .cons hi h4⟩
      rw [lines_good hx, h3, List.append_assoc]
      rfl
theorem places_text {names : List ByteArray} (hd : names.Nodup) : ∀ (js : List Nat) (ws : List Wd) (acc : List Nat), (∀ j ∈ js, j < names.length) → ws.map (·.t) = js.map (fun j => names.getD j .empty) → placesP names acc ws = .inr (acc ++ js)
  | [], ws, acc, _, h => by
    obtain rfl : ws = [] := by simpa using h
    simp [placesP]
  | j :: js, ws, acc, hj, h => by
    obtain ⟨p, ws', rfl, h2⟩ := cons_t (a := names.getD j .empty) (r := js.map (fun j => names.getD j .empty)) h
    rw [places_good (find_at hd (hj j (by simp))), places_text hd js ws' _ (fun i hi => hj i (by simp [hi])) h2, List.append_assoc]
    rfl
theorem tasks_text {names : List ByteArray} (hd : names.Nodup) : ∀ (xs : List LnP) (ts : List TkP) (acc : List TkP), LnsAre names xs ts → (∀ t ∈ ts, ∀ j ∈ t.after, j < names.length) → tasksP names acc xs = .inr (acc ++ ts)
  | [], _, acc, .nil, _ => by simp [tasksP]
  | x :: xs, t :: ts, acc, .cons h1 h2, hj => by
    have h3 := places_text hd t.after x.after [] (hj t (by simp)) h1.after
    rw [List.nil_append] at h3
    rw [tasks_good h3, tasks_text hd xs ts _ h2 (fun u hu => hj u (by simp [hu])), h1.name, h1.retry, h1.time, h1.need, h1.lv, h1.st, List.append_assoc]
    rfl
theorem text_words {p : PiP} (h : RightPi p) : ∀ l ∈ textW p, l ≠ [] ∧ ∀ w ∈ l, WordOk w := by
  intro l hl
  have hd : ∀ w : ByteArray, w ≠ .empty → (∀ b ∈ bl w, isW b.toNat = true) → WordOk w := fun w h1 h2 => ⟨h1, h2⟩
  rw [textW] at hl
  rcases List.mem_cons.1 hl with rfl | hl
  · refine ⟨by simp, fun w hw => ?_⟩
    simp only [List.mem_cons, List.not_mem_nil, or_false] at hw
    rcases hw with rfl | rfl
    · exact hd _ (by decide) (by decide)
    · exact word_name h.name
  · obtain ⟨t, ht, rfl⟩ := List.mem_map.1 hl
    have hk := h.task t ht
    refine ⟨by simp [taskW], fun w hw => ?_⟩
    rw [taskW] at hw
    rcases List.mem_cons.1 hw with rfl | hw
    · split
      · exact hd _ (by decide) (by decide)
      · exact hd _ (by decide) (by decide)
    · rcases List.mem_cons.1 hw with rfl | hw
      · exact word_name hk.name
      · rcases List.mem_append.1 hw with hw | hw
        · unfold aftW at hw
          split at hw
          · cases hw
          · rename_i ha
            simp only [List.mem_cons, List.not_mem_nil, or_false] at hw
            rcases hw with rfl | rfl
            · exact hd _ (by decide) (by decide)
            · refine word_names (by simpa using ha) (fun m hm => ?_)
              obtain ⟨j, hj, rfl⟩ := List.mem_map.1 hm
              have hjl := hk.aft.1 j hj
              have e : (p.tasks.map (·.name)).getD j .empty = (p.tasks[j]).name := by
                rw [List.getD_eq_getElem?_getD, List.getElem?_eq_getElem (by rw [List.length_map]; exact hjl)]
                simp
              rw [e]
              exact (h.task _ (List.getElem_mem hjl)).name
        · rcases List.mem_append.1 hw with hw | hw
          · unfold retW at hw
            split at hw
            · simp only [List.mem_cons, List.not_mem_nil, or_false] at hw
              rcases hw with rfl | rfl
              · exact hd _ (by decide) (by decide)
              · exact word_dig hk.retry.1 (by have := hk.retry.2; omega)
            · cases hw
          · rcases List.mem_append.1 hw with hw | hw
            · unfold gateW at hw
              split at hw
              · simp only [List.mem_cons, List.not_mem_nil, or_false] at hw
                rcases hw with rfl | rfl | rfl | rfl
                · exact hd _ (by decide) (by decide)
                · exact word_lab hk.lab.1 hk.lab.2.1
                · exact hd _ (by decide) (by decide)
                · exact word_dig hk.need.1 (by have := hk.need.2; omega)
              · cases hw
            · simp only [List.mem_cons, List.not_mem_nil, or_false] at hw
              rcases hw with rfl | rfl
              · exact hd _ (by decide) (by decide)
              · exact word_dig (by have := hk.time.1; omega) hk.time.2
/-- A pipeline that may be, as a text, is read as it was. -/
theorem parse_text {p : PiP} (h : RightPi p) (hz : (textP p).size ≤ 600) : parseP (textP p) = .inr p := by
  obtain ⟨L, h1, h2⟩ := lex_lines (text_words h) hz
  cases L with
  | nil => cases h2
  | cons l0 L =>
    rw [textW, List.map_cons] at h2
    injection h2 with h3 h4
    obtain ⟨p0, l1, rfl, h5⟩ := cons_t h3
    obtain ⟨p1, l2, rfl, h6⟩ := cons_t h5
    obtain rfl : l2 = [] := by simpa using h6
    have hlen : (p.tasks.map (·.name)).length = p.tasks.length := List.length_map _
    have hok : ∀ j, j < p.tasks.length → nameOk ((p.tasks.map (·.name)).getD j .empty) := fun j hj => by
      have e : (p.tasks.map (·.name)).getD j .empty = (p.tasks[j]).name := by
        rw [List.getD_eq_getElem?_getD, List.getElem?_eq_getElem (by rw [List.length_map]; exact hj)]
        simp
      rw [e]
      exact (h.task _ (List.getElem_mem hj)).name
    obtain ⟨xs, h7, h8⟩ := lines_text hlen h.few.2 hok h.names p.tasks [] L h.task (by simp) h4
    have hnm := h8.names
    have hne : xs ≠ [] := fun e => by
      rw [e] at hnm
      have h9 := h.few.1
      rw [← hlen, ← hnm] at h9
      simp at h9
    have h10 := tasks_text h.names xs p.tasks [] h8 (fun t ht j hj => by rw [hlen]; exact (h.task t ht).aft.1 j hj)
    have h11 : lexP (textP p) = .good ([⟨sPipe, p0⟩, ⟨p.name, p1⟩] :: L) := h1
    rw [parse_go (a := ⟨sPipe, p0⟩) (b := ⟨p.name, p1⟩) h11 rfl rfl rfl rfl (name_yes h.name), h7, List.nil_append, endL_some hne, hnm, h10]
    rfl
end Go.Proofs.YtfjaibaidpbppaaGreatDoor
