/- Masks of addresses, and their bits. -/
import Derived.Test.YtibbhfmpgpkdaaaBT
namespace Go.Proofs.Ytibbhfmpgpkdaaa
open Go.RowKit

/-- That many ones of 32 bits, from the highest on. -/
def maskN (b : Nat) : Int := 2 ^ 32 - 2 ^ (32 - b)
/-- What stands for the bits: 0 to 32. -/
def clampN (b : Int) : Nat := if 32 < b then 32 else b.toNat
theorem clampN_le (b : Int) : clampN b ≤ 32 := by unfold clampN; split <;> omega
theorem clampN_of (b : Int) (h0 : 0 ≤ b) (h : b ≤ 32) : clampN b = b.toNat := by unfold clampN; rw [if_neg (by omega)]
theorem maskN_fin : ∀ b : Fin 33, bits .andNot .i64 4294967295 (4294967295 / 2 ^ b.val) = maskN b.val ∧ bits .and .i64 (wrap64 (4294967295 * 2 ^ (32 - b.val))) 4294967295 = maskN b.val := by decide +kernel
theorem maskN_not (b : Nat) (h : b ≤ 32) : bits .andNot .i64 4294967295 (4294967295 / 2 ^ b) = maskN b := (maskN_fin ⟨b, by omega⟩).1
theorem maskN_shl (b : Nat) (h : b ≤ 32) : bits .and .i64 (wrap64 (4294967295 * 2 ^ (32 - b))) 4294967295 = maskN b := (maskN_fin ⟨b, by omega⟩).2
/-- Which mask it is, from k on. -/
def bitsFrom (m : Int) : Nat → Nat → Int
  | 0, _ => -1
  | f + 1, k => if maskN k = m then (k : Int) else bitsFrom m f (k + 1)
/-- The length whose mask it is, or -1. -/
def bitsZ (m : Int) : Int := bitsFrom m 33 0
theorem bitsFrom_zero (m : Int) (k : Nat) : bitsFrom m 0 k = -1 := rfl
theorem bitsFrom_hit (m : Int) (f k : Nat) (h : maskN k = m) : bitsFrom m (f + 1) k = k := by rw [bitsFrom, if_pos h]
theorem bitsFrom_miss (m : Int) (f k : Nat) (h : ¬ maskN k = m) : bitsFrom m (f + 1) k = bitsFrom m f (k + 1) := by rw [bitsFrom, if_neg h]
set_option maxHeartbeats 400000 in
theorem mask_any (a : Int) (w : World) :
    Calls Try.prog 97 #[.int .i64 a] w fun e w' => e = .returned (.int .i64 (maskN (clampN a))) ∧ w' = w := by
  by_cases h1 : 32 < a
  · have e1 := maskN_not 32 (by omega)
    go_enter Try.func97, Try.ntmps97
    go_wp2
    go_ret
    exact ⟨ret_int (by rw [clampN, if_pos h1]; exact e1), rfl⟩
  · by_cases h2 : 0 < a
    · go_enter Try.func97, Try.ntmps97
      go_wp2
      go_ret
      exact ⟨ret_int (by rw [clampN, if_neg (by omega)]; exact maskN_not _ (by omega)), rfl⟩
    · have e0 : clampN a = 0 := by unfold clampN; rw [if_neg h1]; omega
      go_enter Try.func97, Try.ntmps97
      go_wp2
      go_ret
      exact ⟨ret_int (maskN_not 0 (by omega)), rfl⟩

set_option maxHeartbeats 400000 in
theorem rmask_any (a : Int) (w : World) :
    Calls Try.prog 65 #[.int .i64 a] w fun e w' => e = .returned (.int .i64 (maskN (clampN a))) ∧ w' = w := by
  by_cases h1 : 32 < a
  · go_enter Try.func65, Try.ntmps65
    go_wp2
    go_ret
    exact ⟨ret_int (by rw [clampN, if_pos h1]; decide +kernel), rfl⟩
  · by_cases h2 : 0 < a
    · go_enter Try.func65, Try.ntmps65
      go_wp2
      go_ret
      exact ⟨ret_int (by rw [clampN, if_neg (by omega), show (32 - a).toNat = 32 - a.toNat by omega]; exact maskN_shl _ (by omega)), rfl⟩
    · have e0 : clampN a = 0 := by unfold clampN; rw [if_neg h1]; omega
      go_enter Try.func65, Try.ntmps65
      go_wp2
      go_ret
      exact ⟨ret_int (maskN_shl 0 (by omega)), rfl⟩

theorem bits_step (m : Int) (k : Nat) (hk : k < 33) (H : bitsZ m = bitsFrom m (33 - k) k) (h : ¬ maskN k = m) : bitsZ m = bitsFrom m (33 - (k + 1)) (k + 1) := by
  rw [H, show 33 - k = (33 - (k + 1)) + 1 by omega, bitsFrom_miss m _ k h]
theorem bits_stop (m : Int) (k : Nat) (hk : k < 33) (H : bitsZ m = bitsFrom m (33 - k) k) (h : maskN k = m) : bitsZ m = k := by
  rw [H, show 33 - k = (33 - (k + 1)) + 1 by omega, bitsFrom_hit m _ k h]

theorem maskN_bd (b : Nat) (h : b ≤ 32) : 0 ≤ maskN b ∧ maskN b ≤ 4294967295 := by
  have : ∀ b : Fin 33, 0 ≤ maskN b.val ∧ maskN b.val ≤ 4294967295 := by decide +kernel
  exact this ⟨b, by omega⟩
theorem maskN_inj (a b : Nat) (ha : a ≤ 32) (hb : b ≤ 32) (h : maskN a = maskN b) : a = b := by
  have : ∀ a b : Fin 33, maskN a.val = maskN b.val → a.val = b.val := by decide +kernel
  exact this ⟨a, by omega⟩ ⟨b, by omega⟩ h
theorem bitsZ_mask (b : Nat) (hb : b ≤ 32) : bitsZ (maskN b) = b := by
  have : ∀ b : Fin 33, bitsZ (maskN b.val) = b.val := by decide +kernel
  exact this ⟨b, by omega⟩
theorem bitsFrom_is (m : Int) : ∀ (f k : Nat), (∃ j : Nat, k ≤ j ∧ j < k + f ∧ maskN j = m ∧ bitsFrom m f k = j) ∨ bitsFrom m f k = -1
  | 0, k => .inr rfl
  | f + 1, k => by
    by_cases h : maskN k = m
    · exact .inl ⟨k, Nat.le_refl _, by omega, h, bitsFrom_hit m f k h⟩
    · rw [bitsFrom_miss m f k h]
      rcases bitsFrom_is m f (k + 1) with ⟨j, h1, h2, h3, h4⟩ | h4
      · exact .inl ⟨j, by omega, by omega, h3, h4⟩
      · exact .inr h4
theorem bitsZ_is (m : Int) : (∃ j : Nat, j ≤ 32 ∧ maskN j = m ∧ bitsZ m = j) ∨ bitsZ m = -1 := by
  rcases bitsFrom_is m 33 0 with ⟨j, _, h2, h3, h4⟩ | h4
  · exact .inl ⟨j, by omega, h3, h4⟩
  · exact .inr h4
end Go.Proofs.Ytibbhfmpgpkdaaa
