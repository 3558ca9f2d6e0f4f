/- The contract of the document's Read. -/
import Derived.Test.YtjnmaplkikbjjaaDoorW6
namespace Go.Proofs.YtjnmaplkikbjjaaDoor
open Go.RowKit

/-- One byte's turn: the number so far, the part so far, how many parts. -/
def step3 (z : Int × Int × Int) (b : UInt8) : Int × Int × Int :=
  if 48 ≤ b.toNat ∧ b.toNat ≤ 57 ∧ z.2.1 < 256 then (z.1, 10 * z.2.1 + (b.toNat - 48), z.2.2) else (bits .or .i64 (wrap64 (z.1 * 256)) (z.2.1 % 256), 0, z.2.2 + 1)
/-- What stands behind the end's turn. -/
def last3 (z : Int × Int × Int) : Int × Int × Int := (bits .or .i64 (wrap64 (z.1 * 256)) (z.2.1 % 256), 0, z.2.2 + 1)
/-- Behind k turns. -/
def at3 (l : List UInt8) (k : Nat) : Int × Int × Int := if k ≤ l.length then (l.take k).foldl step3 (0, 0, 0) else last3 (l.foldl step3 (0, 0, 0))
theorem at3_zero (l : List UInt8) : at3 l 0 = (0, 0, 0) := by simp [at3]
theorem at3_step (l : List UInt8) (k : Nat) (h : k < l.length) : at3 l (k + 1) = step3 (at3 l k) l[k] := by
  unfold at3
  rw [if_pos (by omega), if_pos (by omega), List.take_succ_eq_append_getElem h, List.foldl_append]; rfl
theorem at3_last (l : List UInt8) : at3 l (l.length + 1) = last3 (at3 l l.length) := by
  unfold at3
  rw [if_neg (by omega), if_pos (by omega), List.take_length]
theorem step3_bd (z : Int × Int × Int) (b : UInt8) (k : Int) (h : 0 ≤ z.2.1 ∧ z.2.1 ≤ 2559 ∧ 0 ≤ z.2.2 ∧ z.2.2 ≤ k) : 0 ≤ (step3 z b).2.1 ∧ (step3 z b).2.1 ≤ 2559 ∧ 0 ≤ (step3 z b).2.2 ∧ (step3 z b).2.2 ≤ k + 1 := by
  unfold step3
  split <;> simp <;> omega

theorem byte48 (k : Nat) (h : k < 10) : (UInt8.ofNat (48 + k)).toNat = 48 + k := by rw [UInt8.toNat_ofNat']; omega
theorem step3_digit (a n c : Int) (k : Nat) (h : k < 10) (hn : n < 256) : step3 (a, n, c) (UInt8.ofNat (48 + k)) = (a, 10 * n + k, c) := by
  unfold step3
  rw [byte48 k h, if_pos ⟨by omega, by omega, hn⟩]
  simp
  omega
theorem fold_d3 (a c : Int) (n : Nat) (h : n < 256) : (d3 n).foldl step3 (a, 0, c) = (a, (n : Int), c) := by
  unfold d3
  by_cases h1 : n < 10
  · rw [if_pos h1, List.foldl_cons, step3_digit _ _ _ _ h1 (by omega)]; simp
  · rw [if_neg h1]
    by_cases h2 : n < 100
    · rw [if_pos h2, List.foldl_cons, step3_digit _ _ _ _ (by omega) (by omega), List.foldl_cons, step3_digit _ _ _ _ (by omega) (by omega), List.foldl_nil]
      simp; omega
    · rw [if_neg h2, List.foldl_cons, step3_digit _ _ _ _ (by omega) (by omega), List.foldl_cons, step3_digit _ _ _ _ (by omega) (by omega), List.foldl_cons, step3_digit _ _ _ _ (by omega) (by omega), List.foldl_nil]
      simp; omega
theorem step3_point (a c : Int) (n : Nat) (h0 : 0 ≤ a) (h1 : a < 16777216) (h : n < 256) : step3 (a, (n : Int), c) 46 = (a * 256 + n, 0, c + 1) := by
  unfold step3
  rw [if_neg (by simp)]
  simp only
  rw [show (n : Int) % 256 = n by omega, or_byte a n h0 h1 (by omega) (by omega)]
theorem last3_text (a : Int) : last3 ((textL a).foldl step3 (0, 0, 0)) = (a % 4294967296, 0, 4) := by
  have h0 := byN_lt a 0
  have h1 := byN_lt a 1
  have h2 := byN_lt a 2
  have h3 := byN_lt a 3
  rw [← quad_eq, textL_d3, List.foldl_append, fold_d3 _ _ _ h0, List.foldl_cons, step3_point _ _ _ (by omega) (by omega) h0]
  rw [List.foldl_append, fold_d3 _ _ _ h1, List.foldl_cons, step3_point _ _ _ (by omega) (by omega) h1]
  rw [List.foldl_append, fold_d3 _ _ _ h2, List.foldl_cons, step3_point _ _ _ (by omega) (by omega) h2]
  rw [fold_d3 _ _ _ h3]
  unfold last3
  simp only
  rw [show (byN a 3 : Int) % 256 = byN a 3 by omega, or_byte _ _ (by omega) (by omega) (by omega) (by omega)]
  simp [quad]
theorem at3_text (a : Int) (m : Nat) (hm : m = min ((textL a).length + 1) 16) : at3 (textL a) m = (a % 4294967296, 0, 4) := by
  have := textL_len a
  rw [hm, show min ((textL a).length + 1) 16 = (textL a).length + 1 by omega, at3_last, ← last3_text]
  simp [at3]
theorem at3_readIs (l : List UInt8) (m : Nat) (hm : m = min (l.length + 1) 16) (A n C : Int) (h : at3 l m = (A, n, C)) :
    (C ≠ 4 → ReadIs l 0 3) ∧ (textL A ≠ l → ReadIs l 0 3) ∧ (textL A = l → ReadIs l (A % 4294967296) 0) := by
  have key : ∀ a, textL a = l → C = 4 ∧ A = a % 4294967296 := by
    intro a e
    subst e
    rw [at3_text a m hm] at h
    simp at h
    exact ⟨h.2.2.symm, h.1.symm⟩
  refine ⟨fun hc => Or.inr ⟨rfl, rfl, fun a e => hc (key a e).1⟩, fun ht => Or.inr ⟨rfl, rfl, fun a e => ht ?_⟩, fun ht => Or.inl ⟨rfl, by omega, by rw [text_low, ht]⟩⟩
  rw [(key a e).2, text_low, e]

theorem turn_digit (s : ByteArray) (k : Nat) (h : k < s.size) (A N C : Int) (H : at3 s.data.toList k = (A, N, C)) (h1 : 48 ≤ (s[k].toNat : Int)) (h2 : (s[k].toNat : Int) ≤ 57) (h3 : N < 256) :
    at3 s.data.toList (k + 1) = (A, 10 * N + ((s[k].toNat : Int) - 48), C) := by
  have hl : k < s.data.toList.length := by rw [Array.length_toList]; exact h
  have e : s.data.toList[k] = s[k] := rfl
  rw [at3_step _ _ hl, H, e]
  unfold step3
  rw [if_pos ⟨by omega, by omega, h3⟩]
theorem turn_other (s : ByteArray) (k : Nat) (h : k < s.size) (A N C : Int) (H : at3 s.data.toList k = (A, N, C)) (hn : ¬ (48 ≤ (s[k].toNat : Int) ∧ (s[k].toNat : Int) ≤ 57 ∧ N < 256)) :
    at3 s.data.toList (k + 1) = (bits .or .i64 (wrap64 (A * 256)) (bits .and .i64 N 255), 0, C + 1) := by
  have hl : k < s.data.toList.length := by rw [Array.length_toList]; exact h
  have e : s.data.toList[k] = s[k] := rfl
  rw [at3_step _ _ hl, H, e]
  unfold step3
  rw [if_neg (fun x => hn ⟨by omega, by omega, x.2.2⟩), and_255]
theorem turn_last (s : ByteArray) (k : Nat) (h : k = s.size) (A N C : Int) (H : at3 s.data.toList k = (A, N, C)) :
    at3 s.data.toList (k + 1) = (bits .or .i64 (wrap64 (A * 256)) (bits .and .i64 N 255), 0, C + 1) := by
  have hl : k = s.data.toList.length := by rw [Array.length_toList]; exact h
  subst hl
  rw [at3_last, H, and_255]; rfl

set_option maxRecDepth 100000 in
set_option maxHeartbeats 1600000 in
theorem rread_any (s : ByteArray) (w : World) (hs : s.size ≤ 100) :
    Calls Tryd.prog 26 #[.string s] w fun e w' => ∃ x y, e = .returned (.tuple #[.int .i64 x, .int .i64 y]) ∧ ReadIs s.data.toList x y ∧ Below w.heap.size w w' := by
  have hsl : s.data.toList.length = s.size := by rw [Array.length_toList]; rfl
  go_enter Tryd.func26, Tryd.ntmps26
  go_wp2
  go_loop [4, 5, 6, 7] (fun a n c i => ∃ (k : Nat) (A N C : Int), k ≤ min (s.size + 1) 16 ∧ i = .int .i64 k ∧ a = .int .i64 A ∧ n = .int .i64 N ∧ c = .int .i64 C ∧ 0 ≤ N ∧ N ≤ 2559 ∧ 0 ≤ C ∧ C ≤ k ∧ Hid (at3 s.data.toList k = (A, N, C))) (fun _ _ _ i => 17 - (intOf i).toNat)
  case atStart => exact ⟨0, 0, 0, 0, by omega, rfl, rfl, rfl, rfl, by omega, by omega, by omega, by omega, at3_zero _⟩
  case round =>
    obtain ⟨k, A, N, C, hk, rfl, rfl, rfl, rfl, n0, n1, c0, c1, H⟩ := hrel
    by_cases hm : k < min (s.size + 1) 16
    · have hk16 : k < 16 := by omega
      by_cases hlt : k < s.size
      · go_wp2
        · exact ⟨⟨k + 1, A, _, C, by omega, by go_num, rfl, rfl, rfl, by omega, by omega, by omega, by omega, turn_digit s k hlt A N C H.out ‹_› ‹_› ‹_›⟩, by simp [intOf]; omega⟩
        all_goals exact ⟨⟨k + 1, _, 0, C + 1, by omega, by go_num, rfl, rfl, rfl, by omega, by omega, by omega, by omega, turn_other s k hlt A N C H.out (by omega)⟩, by simp [intOf]; omega⟩
      · go_wp2
        exact ⟨⟨k + 1, _, 0, C + 1, by omega, by go_num, rfl, rfl, rfl, by omega, by omega, by omega, by omega, turn_last s k (by omega) A N C H.out⟩, by simp [intOf]; omega⟩
    · have hkm : k = min (s.data.toList.length + 1) 16 := by omega
      have Q := at3_readIs s.data.toList k hkm A N C H.out
      have HQ : Hid ((C ≠ 4 → ReadIs s.data.toList 0 3) ∧ (textL A ≠ s.data.toList → ReadIs s.data.toList 0 3) ∧ (textL A = s.data.toList → ReadIs s.data.toList (A % 4294967296) 0)) := Q
      clear Q
      by_cases hC : C = 4
      · subst hC
        by_cases hlt : k ≤ s.size
        all_goals
          go_wp2_with fail
          refine (rtext_any A _).mono ?_
          rintro e w1 ⟨rfl, hb⟩
          by_cases he : textL A = s.data.toList
          · have h1 : (textL A == s.toList) = true := by rw [ByteArray.toList_eq]; simpa using he
            have h2 : Hid (textL A = s.data.toList) := he
            clear he
            go_wp2
            go_ret2
            exact ⟨_, _, rfl, by rw [and_32]; exact HQ.out.2.2 h2.out, hb⟩
          · have h1 : (textL A == s.toList) = false := by rw [ByteArray.toList_eq]; simpa using he
            have h2 : Hid (¬ textL A = s.data.toList) := he
            clear he
            go_wp2
            go_ret2
            exact ⟨_, _, rfl, HQ.out.2.1 h2.out, hb⟩
      · have h1 : (C == 4) = false := by simpa using hC
        by_cases hlt : k ≤ s.size
        all_goals
          go_wp2
          go_ret2
          exact ⟨_, _, rfl, HQ.out.1 hC, Below.refl _ _⟩
end Go.Proofs.YtjnmaplkikbjjaaDoor
