/- Plain facts on bits of an int, no program in it. -/
import Derived.Laws.BitsLemmas
import Derived.WalkKit
namespace Go.Proofs.Ytgljblnegiadlaa
open Go Go.RowKit

theorem ofInt64_toNat (a : Int) : (BitVec.ofInt 64 a).toNat = (a % 18446744073709551616).toNat := by
  simp [BitVec.toNat_ofInt]

theorem nat_and_field (x i j : Nat) : x &&& (2 ^ i * (2 ^ j - 1)) = x / 2 ^ i % 2 ^ j * 2 ^ i := by
  apply Nat.eq_of_testBit_eq
  intro k
  rw [Nat.testBit_and, Nat.mul_comm (2 ^ i), Nat.testBit_mul_two_pow, Nat.testBit_mul_two_pow, Nat.testBit_two_pow_sub_one, Nat.testBit_mod_two_pow, Nat.testBit_div_two_pow]
  by_cases h : i ≤ k
  · simp [h, Nat.sub_add_cancel h, Bool.and_comm]
  · simp [h]

theorem int_field (a : Int) (i j : Nat) (h : i + j ≤ 64) : a % 18446744073709551616 / 2 ^ i % 2 ^ j = a / 2 ^ i % 2 ^ j := by
  have e : a = a % 18446744073709551616 + 2 ^ i * (2 ^ (64 - i) * (a / 18446744073709551616)) := by
    have h1 := Int.emod_add_mul_ediv a 18446744073709551616
    have h2 : (2 : Int) ^ i * 2 ^ (64 - i) = 18446744073709551616 := by
      rw [← Int.pow_add, show i + (64 - i) = 64 by omega]; rfl
    rw [← Int.mul_assoc, h2]; omega
  have hp : (2 : Int) ^ i ≠ 0 := by
    have : (0 : Int) < 2 ^ i := Int.pow_pos (by decide)
    omega
  have h3 : (2 : Int) ^ (64 - i) = 2 ^ j * 2 ^ (64 - i - j) := by
    rw [← Int.pow_add, show j + (64 - i - j) = 64 - i by omega]
  conv => rhs; rw [e, Int.add_mul_ediv_left _ _ hp, h3, Int.mul_assoc, Int.add_mul_emod_self_left]

theorem and_field (a : Int) (i j : Nat) (h : i + j ≤ 62) : bits .and .i64 a (2 ^ i * (2 ^ j - 1)) = a / 2 ^ i % 2 ^ j * 2 ^ i := by
  have hm : (2 ^ i * (2 ^ j - 1) : Nat) < 2 ^ 62 := by
    have h1 : 2 ^ i * 2 ^ j ≤ 2 ^ 62 := by rw [← Nat.pow_add]; exact Nat.pow_le_pow_right (by decide) h
    have h2 : 0 < 2 ^ i := Nat.two_pow_pos i
    have h3 : 0 < 2 ^ j := Nat.two_pow_pos j
    have h4 : 2 ^ i * (2 ^ j - 1) < 2 ^ i * 2 ^ j := Nat.mul_lt_mul_of_pos_left (by omega) h2
    omega
  have hc : ((2 : Int) ^ i * (2 ^ j - 1)) = ((2 ^ i * (2 ^ j - 1) : Nat) : Int) := by
    have h3 : 0 < 2 ^ j := Nat.two_pow_pos j
    rw [Int.natCast_mul, Int.natCast_sub h3]; simp
  rw [hc]
  have e1 : (BitVec.ofInt 64 ((2 ^ i * (2 ^ j - 1) : Nat) : Int)).toNat = 2 ^ i * (2 ^ j - 1) := by
    rw [ofInt64_toNat]
    have : (2 : Nat) ^ 62 = 4611686018427387904 := by decide
    omega
  show IntKind.i64.wrap _ = _
  have e2 : (BitVec.ofInt 64 a &&& BitVec.ofInt 64 ((2 ^ i * (2 ^ j - 1) : Nat) : Int)).toNat = (a % 18446744073709551616).toNat / 2 ^ i % 2 ^ j * 2 ^ i := by
    rw [BitVec.toNat_and, e1, ofInt64_toNat, nat_and_field]
  have e3 : (((a % 18446744073709551616).toNat / 2 ^ i % 2 ^ j * 2 ^ i : Nat) : Int) = a / 2 ^ i % 2 ^ j * 2 ^ i := by
    rw [← int_field a i j (by omega), Int.natCast_mul, Int.natCast_emod, Int.natCast_ediv, Int.toNat_of_nonneg (Int.emod_nonneg _ (by decide))]
    simp
  have e4 : (a % 18446744073709551616).toNat / 2 ^ i % 2 ^ j * 2 ^ i < 4611686018427387904 := by
    have h1 : (a % 18446744073709551616).toNat / 2 ^ i % 2 ^ j ≤ 2 ^ j - 1 := by
      have := Nat.mod_lt ((a % 18446744073709551616).toNat / 2 ^ i) (Nat.two_pow_pos j); omega
    have h2 := Nat.mul_le_mul_right (2 ^ i) h1
    have h5 : (2 : Nat) ^ 62 = 4611686018427387904 := by decide
    rw [Nat.mul_comm (2 ^ j - 1)] at h2
    omega
  have e5 : IntKind.i64.wrap (((BitVec.ofInt 64 a &&& BitVec.ofInt 64 ((2 ^ i * (2 ^ j - 1) : Nat) : Int)).toNat : Nat) : Int) = a / 2 ^ i % 2 ^ j * 2 ^ i := by
    rw [e2, IntKind.wrap_i64]
    rw [← e3]
    omega
  exact e5

theorem and_255 (a : Int) : bits .and .i64 a 255 = a % 256 := by
  have := and_field a 0 8 (by decide)
  simpa using this
theorem and_32 (a : Int) : bits .and .i64 a 4294967295 = a % 4294967296 := by
  have := and_field a 0 32 (by decide)
  simpa using this
theorem and_65535 (a : Int) : bits .and .i64 a 65535 = a % 65536 := by
  have := and_field a 0 16 (by decide)
  simpa using this
theorem wraps62 (n : Int) (h₀ : 0 ≤ n) (h₁ : n < 2 ^ 62) : IntKind.i64.wrap n = n := by rw [IntKind.wrap_i64]; omega
theorem or_byte (a b : Int) (ha : 0 ≤ a) (h1 : a ≤ 4503599627370495) (hb : 0 ≤ b) (h2 : b ≤ 255) : bits .or .i64 (a * 256) b = a * 256 + b :=
  bits_join .i64 62 (by decide) wraps62 8 (a * 256) b (by omega) (by omega) (by omega) hb (by omega) (by omega)
end Go.Proofs.Ytgljblnegiadlaa
