/-
  What the document's Lay (package lockageref04) answers: a text's sectors. No conditions but the numbers' types and a text of 2000 bytes at most.
-/
import Derived.Test.YtblmempidngcgaaSecY
import Derived.Test.YtblmempidngcgaaSecB
namespace Go.Proofs.Ytblmempidngcgaa
open Go.RowKit

def textsV (L : List ByteArray) : List Value := L.map .string

set_option maxHeartbeats 2000000 in
set_option maxRecDepth 100000 in
theorem reflay_is (s : ByteArray) (hs : s.size ≤ 2000) (stamp gen no : Int) (h0 : 0 ≤ stamp) (h1 : stamp < 18446744073709551616) (w : World) :
    Calls Try.prog 16 #[.string s, .int .u64 stamp, .int .i64 gen, .int .i64 no] w fun e w' => Below w.heap.size w w' ∧
      ((layOk s gen no = false ∧ e = .returned (.tuple #[.slice none 0 0, .bool false])) ∨ (layOk s gen no = true ∧ ∃ v, e = .returned (.tuple #[v, .bool true]) ∧
        w'.ownsRow w.heap.size 9 1 v (cntN s.size) (textsV (layL s stamp gen no)))) := by
  have hcn := cntI_nat s.size
  obtain ⟨n, hn⟩ : ∃ n, n = cntN s.size := ⟨_, rfl⟩
  rw [← hn] at hcn
  have CO := Lib.hid (fun w => refcount_is s.size (by omega) (by omega) w)
  rw [hcn] at CO
  have hn55 : n ≤ 55 := by rw [hn]; unfold cntN; split <;> omega
  have hn1 : 1 ≤ n := by rw [hn]; exact cnt_pos _
  rw [← hn]
  have HN := Lib.hid hn
  clear hn hcn
  obtain ⟨i0, hi0, hz0, hz1, hz2⟩ := info_parts info_str3
  go_enter Try.func16, Try.ntmps16
  go_wp2_with fail
  refine (CO.out _).mono ?_
  rintro e w1 ⟨rfl, hw1⟩
  subst hw1
  go_wp2_with fail
  go_loopw [11, 12] (fun v i wr => ∃ k : Nat, k ≤ n ∧ i = .int .i64 k ∧ (0 < k → layOk s gen no = true) ∧ wr.ownsRow w.heap.size 9 1 v k (textsV ((layL s stamp gen no).take k)) ∧ Below w.heap.size w wr) (fun _ i _ => n - (intOf i).toNat)
  case atStart => exact ⟨0, Nat.zero_le _, rfl, fun h => absurd h (by omega), World.ownsRow_nil _ _ _ _, Below.refl _ _⟩
  case round =>
    obtain ⟨k, hk, rfl, hko, hown, hB⟩ := hrel
    have HOWN := Lib.hid hown
    have HB := Lib.hid hB
    have HKO := Lib.hid hko
    have hsz := hB.size
    clear hown hB hko
    by_cases hlt : k < n
    · have hkl : k < cntN s.size := by rw [← HN.out]; exact hlt
      have hm1 : minI (s.size : Int) (37 * (k : Int)) = (min s.size (37 * k) : Nat) := by unfold minI; split <;> omega
      have hm2 : minI (s.size : Int) (37 * (k : Int) + 37) = (min s.size (37 * k + 37) : Nat) := by unfold minI; split <;> omega
      obtain ⟨a, ha⟩ : ∃ a, a = min s.size (37 * k) := ⟨_, rfl⟩
      obtain ⟨b, hb⟩ : ∃ b, b = min s.size (37 * k + 37) := ⟨_, rfl⟩
      rw [← ha] at hm1
      rw [← hb] at hm2
      have ab1 : (a : Int) ≤ b := by omega
      have ab2 : (b : Int) ≤ s.size := by omega
      have ab3 : (0 : Int) ≤ a := by omega
      have ab4 : (0 : Int) ≤ b := by omega
      have HP := Lib.hid (show (⟨stamp, gen, no, (k : Int), (n : Int), s.extract a b⟩ : Pc) = pieceI s stamp gen no k by rw [ha, hb, HN.out]; rfl)
      have RI := Lib.hid (fun w : World => refright_is stamp gen no k n (s.extract a b) w)
      have hrp : rightP ⟨stamp, gen, no, (k : Int), (n : Int), s.extract a b⟩ = layOk s gen no := by rw [HP.out]; exact piece_right hkl
      rw [hrp] at RI
      have HLL := Lib.hid (show textsV ((layL s stamp gen no).take (k + 1)) = textsV ((layL s stamp gen no).take k) ++ [.string (printB (pieceI s stamp gen no k))] by
        rw [List.take_add_one, layL_at hkl, textsV, List.map_append]; rfl)
      have HRP := Lib.hid hrp
      clear ha hb hrp hkl
      go_wp2_with fail
      refine (RI.out _).mono ?_
      rintro e w1 ⟨rfl, hb1⟩
      have HB1 := Lib.hid (below_step (HB.out.alloc HB.out.size (.cells #[.int .u64 stamp, .int .i64 gen, .int .i64 no, .int .i64 (k : Int), .int .i64 (n : Int), .string (s.extract a b)] 30)) (hb1.mono (Nat.le_refl _)))
      have HZ1 := Lib.hid (later_at hb1 (made_at wr (.cells #[.int .u64 stamp, .int .i64 gen, .int .i64 no, .int .i64 (k : Int), .int .i64 (n : Int), .string (s.extract a b)] 30)))
      have HOWN1 := Lib.hid (own_agree (own_agree HOWN.out (W' := wr.alloc (.cells #[.int .u64 stamp, .int .i64 gen, .int .i64 no, .int .i64 (k : Int), .int .i64 (n : Int), .string (s.extract a b)] 30)) (fun q _ hq => ((Below.refl _ _).alloc (Nat.le_refl _) _).block q hq)) (fun q _ hq => hb1.block q hq))
      have z0 := cellH HZ1.out 0
      have z1 := cellH HZ1.out 1
      have z2 := cellH HZ1.out 2
      have z3 := cellH HZ1.out 3
      have z4 := cellH HZ1.out 4
      have z5 := cellH HZ1.out 5
      simp at z0 z1 z2 z3 z4 z5
      clear hb1 HB HOWN hsz RI
      cases hr : layOk s gen no
      · have HR := Lib.hid hr
        clear hr
        go_wp2_with fail
        refine bodyPost_ret (v := .tuple #[.slice none 0 0, .bool false]) (by simp [results, Try.results16, go_sem]) rfl ⟨HB1.out, .inl ⟨HR.out, rfl⟩⟩
      · have HR := Lib.hid hr
        have PR := Lib.hid (show ∀ w : World, Calls Try.prog 12 #[.agg #[.int .u64 stamp, .int .i64 gen, .int .i64 no, .int .i64 (k : Int), .int .i64 (n : Int), .string (s.extract a b)]] w fun e w' => e = .returned (.string (printB (pieceI s stamp gen no k))) ∧ Below w.heap.size w w' from fun w => by
          have := refprint_is ⟨stamp, gen, no, k, n, s.extract a b⟩ ((rightP_iff _).1 (HRP.out.trans hr)) ⟨h0, h1⟩ w
          rw [show printB (⟨stamp, gen, no, (k : Int), (n : Int), s.extract a b⟩ : Pc) = printB (pieceI s stamp gen no k) by rw [HP.out]] at this
          exact this)
        clear hr HP HRP
        generalize printB (pieceI s stamp gen no k) = pb at PR HLL
        go_wp2_with fail
        refine (PR.out _).mono ?_
        rintro e w2 ⟨rfl, hb2⟩
        have HB2 := Lib.hid (below_step HB1.out hb2)
        have HOWN2 := Lib.hid (own_agree HOWN1.out (fun q _ hq => hb2.block q hq))
        have hs2 := HB2.out.size
        have hsh : ∃ B cap, u11 = .slice B k cap := by
          rcases HOWN2.out.2 with ⟨rfl, e⟩ | ⟨g, cap, cur, rfl, _⟩
          · exact ⟨_, _, by rw [e]⟩
          · exact ⟨_, _, rfl⟩
        obtain ⟨B, cap, rfl⟩ := hsh
        clear hb2 HB1 HOWN1 HZ1 z0 z1 z2 z3 z4 z5 PR
        go_wp2_with (at_builtin; refine wpList_append_own _ rfl (.tmp 44) (.tmp 47) 41 rfl w.heap.size 9 i0 _ 1 16 Try.underlying41 hi0 hz0 hz1 hz2 rfl (by omega) (.slice B k cap) k (textsV ((layL s stamp gen no).take k)) rfl (HOWN2.out.alloc _) ⟨w2.heap.size, 0, none⟩ 1 1 [.string pb] rfl rfl (one_cell_new w2 _ _) (by simp [Value.oneCell']) (by unfold maxLen; omega) (by omega) (by simp; omega) ?_; intro v2 w3 hown2 hg2 _; rw [← HLL.out] at hown2; have HOWN3 := Lib.hid hown2; have HB3 := Lib.hid ((HB2.out.alloc HB2.out.size _).grown hg2 (by simp; omega) (fun b e => (HOWN2.out.lt b e).1)); clear hown2 hg2)
        go_roundw
        case rel => exact ⟨k + 1, by omega, by go_num, fun _ => HR.out, HOWN3.out, HB3.out⟩
        case measure => simp [intOf]; omega
    · obtain rfl : k = n := by omega
      have hLl : (layL s stamp gen no).take k = layL s stamp gen no := List.take_of_length_le (by rw [layL_len, ← HN.out]; exact Nat.le_refl _)
      rw [hLl] at HOWN
      clear hLl
      go_wp2_with fail
      refine bodyPost_ret (v := .tuple #[u11, .bool true]) (by simp [results, Try.results16, go_sem]) rfl ⟨HB.out, .inr ⟨HKO.out (by omega), u11, rfl, HOWN.out⟩⟩
end Go.Proofs.Ytblmempidngcgaa
