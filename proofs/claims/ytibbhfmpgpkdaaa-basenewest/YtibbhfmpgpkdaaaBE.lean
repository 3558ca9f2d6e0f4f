/- Plain facts on numbers as bytes. -/
import Derived.Test.YtibbhfmpgpkdaaaS2P
namespace Go.Proofs.Ytibbhfmpgpkdaaa

/-- The low k bytes of a number, the high one first. -/
def beN : Nat → Int → List Int
  | 0, _ => []
  | k + 1, n => n / 2 ^ (8 * k) % 256 :: beN k n
def be2 (n : Int) : List Int := [n / 256 % 256, n % 256]
def be4 (n : Int) : List Int := [n / 16777216 % 256, n / 65536 % 256, n / 256 % 256, n % 256]
theorem beN_2 (n : Int) : beN 2 n = be2 n := by simp [beN, be2]
theorem beN_4 (n : Int) : beN 4 n = be4 n := by simp [beN, be4]
theorem beN_length : ∀ (k : Nat) (n : Int), (beN k n).length = k
  | 0, _ => rfl
  | k + 1, n => by simp [beN, beN_length k n]
theorem beN_zero : ∀ k : Nat, beN k 0 = List.replicate k 0
  | 0 => rfl
  | k + 1 => by simp [beN, beN_zero k, List.replicate_succ]
/-- Bytes as a number, the high one first. -/
def numZ (zs : List Int) : Int := zs.foldl (fun n v => n * 256 + v) 0
def num4 (a b c d : Int) : Int := ((a * 256 + b) * 256 + c) * 256 + d
def rightI (a : Int) : Bool := decide (0 ≤ a ∧ a ≤ 4294967295)

theorem be2_bd (n : Int) : ∀ z ∈ be2 n, 0 ≤ z ∧ z ≤ 255 := by intro z hz; simp [be2] at hz; omega
theorem be4_bd (n : Int) : ∀ z ∈ be4 n, 0 ≤ z ∧ z ≤ 255 := by intro z hz; simp [be4] at hz; omega
theorem num4_bd (a b c d : Int) (ha : 0 ≤ a ∧ a ≤ 255) (hb : 0 ≤ b ∧ b ≤ 255) (hc : 0 ≤ c ∧ c ≤ 255) (hd : 0 ≤ d ∧ d ≤ 255) : 0 ≤ num4 a b c d ∧ num4 a b c d ≤ 4294967295 := by unfold num4; omega
theorem be4_num4 (a b c d : Int) (ha : 0 ≤ a ∧ a ≤ 255) (hb : 0 ≤ b ∧ b ≤ 255) (hc : 0 ≤ c ∧ c ≤ 255) (hd : 0 ≤ d ∧ d ≤ 255) : be4 (num4 a b c d) = [a, b, c, d] := by
  unfold be4 num4
  have h1 : (((a * 256 + b) * 256 + c) * 256 + d) / 16777216 % 256 = a := by omega
  have h2 : (((a * 256 + b) * 256 + c) * 256 + d) / 65536 % 256 = b := by omega
  have h3 : (((a * 256 + b) * 256 + c) * 256 + d) / 256 % 256 = c := by omega
  have h4 : (((a * 256 + b) * 256 + c) * 256 + d) % 256 = d := by omega
  rw [h1, h2, h3, h4]
theorem num4_be4 (n : Int) (h0 : 0 ≤ n) (h1 : n ≤ 4294967295) : num4 (n / 16777216 % 256) (n / 65536 % 256) (n / 256 % 256) (n % 256) = n := by unfold num4; omega
end Go.Proofs.Ytibbhfmpgpkdaaa
