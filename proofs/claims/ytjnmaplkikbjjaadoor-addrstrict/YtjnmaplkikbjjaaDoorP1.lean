/- Plain facts on numbers and texts, no program in it: bits of an int, masks, decimal numerals of bytes, addresses' texts. -/
import Derived.Laws.BitsLemmas
import Derived.Lib.ItoaNum
import Derived.Lib.Atoi
import Derived.Lib.SplitLaws
import Derived.Lib.Join
import Derived.WalkKit
namespace Go.Proofs.YtjnmaplkikbjjaaDoor
open Go Go.RowKit

theorem ofInt64_toNat (a : Int) : (BitVec.ofInt 64 a).toNat = (a % 18446744073709551616).toNat := by
  simp [BitVec.toNat_ofInt]

theorem nat_and_field (x i j : Nat) : x &&& (2 ^ i * (2 ^ j - 1)) = x / 2 ^ i % 2 ^ j * 2 ^ i := by
  apply Nat.eq_of_testBit_eq
  intro k
  rw [Nat.testBit_and, Nat.mul_comm (2 ^ i), Nat.testBit_mul_two_pow, Nat.testBit_mul_two_pow, Nat.testBit_two_pow_sub_one, Nat.testBit_mod_two_pow, Nat.testBit_div_two_pow]
  by_cases h : i ≤ k
  · simp [h, Nat.sub_add_cancel h, Bool.and_comm]
  · simp [h]

theorem int_field (a : Int) (i j : Nat) (h : i + j ≤ 64) : a % 18446744073709551616 / 2 ^ i % 2 ^ j = a / 2 ^ i % 2 ^ j := by
  have e : a = a % 18446744073709551616 + 2 ^ i * (2 ^ (64 - i) * (a / 18446744073709551616)) := by
    have h1 := Int.emod_add_mul_ediv a 18446744073709551616
    have h2 : (2 : Int) ^ i * 2 ^ (64 - i) = 18446744073709551616 := by
      rw [← Int.pow_add, show i + (64 - i) = 64 by omega]; rfl
    rw [← Int.mul_assoc, h2]; omega
  have hp : (2 : Int) ^ i ≠ 0 := by
    have : (0 : Int) < 2 ^ i := Int.pow_pos (by decide)
    omega
  have h3 : (2 : Int) ^ (64 - i) = 2 ^ j * 2 ^ (64 - i - j) := by
    rw [← Int.pow_add, show j + (64 - i - j) = 64 - i by omega]
  conv => rhs; rw [e, Int.add_mul_ediv_left _ _ hp, h3, Int.mul_assoc, Int.add_mul_emod_self_left]

theorem and_field (a : Int) (i j : Nat) (h : i + j ≤ 62) : bits .and .i64 a (2 ^ i * (2 ^ j - 1)) = a / 2 ^ i % 2 ^ j * 2 ^ i := by
  have hm : (2 ^ i * (2 ^ j - 1) : Nat) < 2 ^ 62 := by
    have h1 : 2 ^ i * 2 ^ j ≤ 2 ^ 62 := by rw [← Nat.pow_add]; exact Nat.pow_le_pow_right (by decide) h
    have h2 : 0 < 2 ^ i := Nat.two_pow_pos i
    have h3 : 0 < 2 ^ j := Nat.two_pow_pos j
    have h4 : 2 ^ i * (2 ^ j - 1) < 2 ^ i * 2 ^ j := Nat.mul_lt_mul_of_pos_left (by omega) h2
    omega
  have hc : ((2 : Int) ^ i * (2 ^ j - 1)) = ((2 ^ i * (2 ^ j - 1) : Nat) : Int) := by
    have h3 : 0 < 2 ^ j := Nat.two_pow_pos j
    rw [Int.natCast_mul, Int.natCast_sub h3]; simp
  rw [hc]
  have e1 : (BitVec.ofInt 64 ((2 ^ i * (2 ^ j - 1) : Nat) : Int)).toNat = 2 ^ i * (2 ^ j - 1) := by
    rw [ofInt64_toNat]
    have : (2 : Nat) ^ 62 = 4611686018427387904 := by decide
    omega
  show IntKind.i64.wrap _ = _
  have e2 : (BitVec.ofInt 64 a &&& BitVec.ofInt 64 ((2 ^ i * (2 ^ j - 1) : Nat) : Int)).toNat = (a % 18446744073709551616).toNat / 2 ^ i % 2 ^ j * 2 ^ i := by
    rw [BitVec.toNat_and, e1, ofInt64_toNat, nat_and_field]
  have e3 : (((a % 18446744073709551616).toNat / 2 ^ i % 2 ^ j * 2 ^ i : Nat) : Int) = a / 2 ^ i % 2 ^ j * 2 ^ i := by
    rw [← int_field a i j (by omega), Int.natCast_mul, Int.natCast_emod, Int.natCast_ediv, Int.toNat_of_nonneg (Int.emod_nonneg _ (by decide))]
    simp
  have e4 : (a % 18446744073709551616).toNat / 2 ^ i % 2 ^ j * 2 ^ i < 4611686018427387904 := by
    have h1 : (a % 18446744073709551616).toNat / 2 ^ i % 2 ^ j ≤ 2 ^ j - 1 := by
      have := Nat.mod_lt ((a % 18446744073709551616).toNat / 2 ^ i) (Nat.two_pow_pos j); omega
    have h2 := Nat.mul_le_mul_right (2 ^ i) h1
    have h5 : (2 : Nat) ^ 62 = 4611686018427387904 := by decide
    rw [Nat.mul_comm (2 ^ j - 1)] at h2
    omega
  have e5 : IntKind.i64.wrap (((BitVec.ofInt 64 a &&& BitVec.ofInt 64 ((2 ^ i * (2 ^ j - 1) : Nat) : Int)).toNat : Nat) : Int) = a / 2 ^ i % 2 ^ j * 2 ^ i := by
    rw [e2, IntKind.wrap_i64]
    rw [← e3]
    omega
  exact e5

theorem and_255 (a : Int) : bits .and .i64 a 255 = a % 256 := by
  have := and_field a 0 8 (by decide)
  simpa using this
theorem and_32 (a : Int) : bits .and .i64 a 4294967295 = a % 4294967296 := by
  have := and_field a 0 32 (by decide)
  simpa using this

/-- That many ones of 32 bits, from the highest on. -/
def maskN (b : Nat) : Int := 2 ^ 32 - 2 ^ (32 - b)
/-- What stands for the bits: 0 to 32. -/
def clampN (b : Int) : Nat := if 32 < b then 32 else b.toNat
theorem clampN_le (b : Int) : clampN b ≤ 32 := by unfold clampN; split <;> omega
theorem clampN_of (b : Int) (h0 : 0 ≤ b) (h : b ≤ 32) : clampN b = b.toNat := by unfold clampN; rw [if_neg (by omega)]
theorem maskN_fin : ∀ b : Fin 33, bits .andNot .i64 4294967295 (4294967295 / 2 ^ b.val) = maskN b.val ∧ bits .and .i64 (wrap64 (4294967295 * 2 ^ (32 - b.val))) 4294967295 = maskN b.val := by decide +kernel
theorem maskN_not (b : Nat) (h : b ≤ 32) : bits .andNot .i64 4294967295 (4294967295 / 2 ^ b) = maskN b := (maskN_fin ⟨b, by omega⟩).1
theorem maskN_shl (b : Nat) (h : b ≤ 32) : bits .and .i64 (wrap64 (4294967295 * 2 ^ (32 - b))) 4294967295 = maskN b := (maskN_fin ⟨b, by omega⟩).2
theorem maskN_form (b : Nat) (h : b ≤ 32) : maskN b = 2 ^ (32 - b) * (2 ^ b - 1) := by
  unfold maskN
  rw [Int.mul_sub, ← Int.pow_add, show 32 - b + b = 32 by omega, Int.mul_one]
/-- What an address's low 32 bits have in common with a mask. -/
def netN (a : Int) (b : Nat) : Int := a / 2 ^ (32 - b) % 2 ^ b * 2 ^ (32 - b)
theorem and_mask (a : Int) (b : Nat) (h : b ≤ 32) : bits .and .i64 a (maskN b) = netN a b := by
  rw [maskN_form b h, and_field a (32 - b) b (by omega)]; rfl
theorem netN_low (a : Int) (b : Nat) (h : b ≤ 32) : netN (a % 4294967296) b = netN a b := by
  unfold netN
  have e : (a % 4294967296) / 2 ^ (32 - b) % 2 ^ b = a / 2 ^ (32 - b) % 2 ^ b := by
    have e1 : a = a % 4294967296 + 2 ^ (32 - b) * (2 ^ b * (a / 4294967296)) := by
      have h1 := Int.emod_add_mul_ediv a 4294967296
      have h2 : (2 : Int) ^ (32 - b) * 2 ^ b = 4294967296 := by
        rw [← Int.pow_add, show 32 - b + b = 32 by omega]; rfl
      rw [← Int.mul_assoc, h2]; omega
    have hp : (2 : Int) ^ (32 - b) ≠ 0 := by
      have : (0 : Int) < 2 ^ (32 - b) := Int.pow_pos (by decide)
      omega
    conv => rhs; rw [e1, Int.add_mul_ediv_left _ _ hp, Int.add_mul_emod_self_left]
  rw [e]

def rightB (a : Int) : Bool := decide (0 ≤ a ∧ a ≤ 4294967295)
def multiB (a : Int) : Bool := decide (3758096384 ≤ a ∧ a ≤ 4026531839)
def inB (a p b : Int) : Bool := rightB a && rightB p && decide (0 ≤ b ∧ b ≤ 32) && decide (netN a b.toNat = netN p b.toNat)

/-- Which mask it is, from k on. -/
def bitsFrom (m : Int) : Nat → Nat → Int
  | 0, _ => -1
  | f + 1, k => if maskN k = m then (k : Int) else bitsFrom m f (k + 1)
/-- The length whose mask it is, or -1. -/
def bitsZ (m : Int) : Int := bitsFrom m 33 0
theorem bitsFrom_zero (m : Int) (k : Nat) : bitsFrom m 0 k = -1 := rfl
theorem bitsFrom_hit (m : Int) (f k : Nat) (h : maskN k = m) : bitsFrom m (f + 1) k = k := by rw [bitsFrom, if_pos h]
theorem bitsFrom_miss (m : Int) (f k : Nat) (h : ¬ maskN k = m) : bitsFrom m (f + 1) k = bitsFrom m f (k + 1) := by rw [bitsFrom, if_neg h]
end Go.Proofs.YtjnmaplkikbjjaaDoor
