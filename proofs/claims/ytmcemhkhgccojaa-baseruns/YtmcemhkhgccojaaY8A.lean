/- Plain facts on the check sums of layer 2: sums of words, sums modulo 255, the pair of bytes that makes both nought. -/
import Derived.Laws.BitsLemmas
import Derived.WalkKit
import Derived.Test.YtmcemhkhgccojaaRows
import Derived.WalkSpells
import Derived.Laws.AppendOwnNone
import Derived.Below
namespace Go.Proofs.Ytmcemhkhgccojaa

/-- The sum of 16-bit words, the high byte first; behind an odd last byte a nought. -/
def wordsZ : List Int → Int
  | [] => 0
  | [a] => 256 * a
  | a :: b :: r => 256 * a + b + wordsZ r
/-- Carries added in again. -/
def foldZ (s : Int) : Int := if s ≤ 0 then 0 else (s - 1) % 65535 + 1
def inetZ (zs : List Int) : Int := 65535 - foldZ (wordsZ zs)
def sumZ : List Int → Int
  | [] => 0
  | a :: r => a + sumZ r
/-- Each byte times how many there are from it on. -/
def wsumZ : List Int → Int
  | [] => 0
  | a :: r => a * ((r.length : Int) + 1) + wsumZ r
def cZ (zs : List Int) : Int := sumZ zs % 255
def dZ (zs : List Int) : Int := wsumZ zs % 255
def goodB (zs : List Int) : Bool := decide (cZ zs = 0 ∧ dZ zs = 0)
/-- The number from 1 to 255 that is n modulo 255. -/
def nzZ (n : Int) : Int := (n - 1) % 255 + 1
/-- Noughts at the places at and at + 1. -/
def holeZ (zs : List Int) (k : Nat) : List Int := (zs.set k 0).set (k + 1) 0
def fstZ (zs : List Int) (k : Nat) : Int := nzZ (((zs.length : Int) - k - 1) * sumZ (holeZ zs k) - wsumZ (holeZ zs k))
def sndZ (zs : List Int) (k : Nat) : Int := nzZ (wsumZ (holeZ zs k) - ((zs.length : Int) - k) * sumZ (holeZ zs k))
def pairZ (zs : List Int) (k : Nat) : Int := 256 * fstZ zs k + sndZ zs k
def pairAt (zs : List Int) (n : Int) : Int := if 0 ≤ n ∧ n ≤ (zs.length : Int) - 2 then pairZ zs n.toNat else 0

theorem wordsZ_bd : ∀ zs : List Int, (∀ z ∈ zs, 0 ≤ z ∧ z ≤ 255) → 0 ≤ wordsZ zs ∧ wordsZ zs ≤ 65535 * (zs.length : Int)
  | [], _ => by simp [wordsZ]
  | [a], h => by have := h a (by simp); simp [wordsZ]; omega
  | a :: b :: r, h => by
    have h1 := h a (by simp); have h2 := h b (by simp)
    have := wordsZ_bd r (fun z hz => h z (by simp [hz])); simp [wordsZ]; omega
theorem wordsZ_even : ∀ (l r : List Int), l.length % 2 = 0 → wordsZ (l ++ r) = wordsZ l + wordsZ r
  | [], r, _ => by simp [wordsZ]
  | [a], r, h => by simp at h
  | a :: b :: l, r, h => by
    have := wordsZ_even l r (by simp at h; omega)
    simp [wordsZ, this]; omega
theorem wordsZ_zeros : ∀ n : Nat, wordsZ (List.replicate n 0) = 0
  | 0 => rfl
  | 1 => rfl
  | n + 2 => by simp [List.replicate_succ, wordsZ]; exact wordsZ_zeros n
theorem wordsZ_odd : ∀ l : List Int, l.length % 2 = 1 → wordsZ (l ++ [0]) = wordsZ l
  | [], h => by simp at h
  | [a], _ => by simp [wordsZ]
  | a :: b :: l, h => by
    have := wordsZ_odd l (by simp at h; omega)
    simp [wordsZ, this]

theorem foldZ_small (s : Int) (h0 : 0 ≤ s) (h1 : s ≤ 65535) : foldZ s = s := by unfold foldZ; split <;> omega
theorem foldZ_bd (s : Int) : 0 ≤ foldZ s ∧ foldZ s ≤ 65535 := by unfold foldZ; split <;> omega
theorem foldZ_step (s : Int) (h : 65535 < s) : foldZ (s / 65536 + s % 65536) = foldZ s := by
  unfold foldZ; rw [if_neg (by omega), if_neg (by omega)]; omega
theorem foldZ_add (s x : Int) (h0 : 0 ≤ s) (hx : 0 ≤ x) : foldZ (foldZ s + x) = foldZ (s + x) := by
  unfold foldZ; split <;> split <;> split <;> omega
theorem foldZ_once (t : Int) (h0 : 0 ≤ t) (h1 : t ≤ 131070) : t % 65536 + t / 65536 = foldZ t := by
  unfold foldZ; split <;> omega
theorem foldZ_full (s : Int) (h : 0 ≤ s) : foldZ (s + (65535 - foldZ s)) = 65535 := by
  unfold foldZ; split <;> split <;> omega
theorem inetZ_bd (zs : List Int) : 0 ≤ inetZ zs ∧ inetZ zs ≤ 65535 := by have := foldZ_bd (wordsZ zs); unfold inetZ; omega
theorem inetZ_nil : inetZ [] = 65535 := by decide

theorem sumZ_append : ∀ l r : List Int, sumZ (l ++ r) = sumZ l + sumZ r
  | [], r => by simp [sumZ]
  | a :: l, r => by simp [sumZ, sumZ_append l r]; omega
theorem wsumZ_append : ∀ l r : List Int, wsumZ (l ++ r) = wsumZ l + sumZ l * (r.length : Int) + wsumZ r
  | [], r => by simp [wsumZ, sumZ]
  | a :: l, r => by
    simp only [List.cons_append, wsumZ, sumZ, wsumZ_append l r, List.length_append]
    push_cast; grind
theorem sumZ_snoc (l : List Int) (v : Int) : sumZ (l ++ [v]) = sumZ l + v := by rw [sumZ_append]; simp [sumZ]
theorem wsumZ_snoc (l : List Int) (v : Int) : wsumZ (l ++ [v]) = wsumZ l + sumZ l + v := by rw [wsumZ_append]; simp [wsumZ]
theorem cZ_bd (l : List Int) : 0 ≤ cZ l ∧ cZ l ≤ 254 := by unfold cZ; omega
theorem dZ_bd (l : List Int) : 0 ≤ dZ l ∧ dZ l ≤ 254 := by unfold dZ; omega
theorem cZ_snoc (l : List Int) (v : Int) : cZ (l ++ [v]) = (cZ l + v) % 255 := by unfold cZ; rw [sumZ_snoc]; omega
theorem dZ_snoc (l : List Int) (v : Int) : dZ (l ++ [v]) = (dZ l + cZ (l ++ [v])) % 255 := by unfold dZ cZ; rw [wsumZ_snoc, sumZ_snoc]; omega

theorem nzZ_bd (n : Int) : 1 ≤ nzZ n ∧ nzZ n ≤ 255 := by unfold nzZ; omega
theorem nzZ_eq (n m : Int) (h : n % 255 = m % 255) : nzZ n = nzZ m := by unfold nzZ; omega
theorem nzZ_mod (n : Int) : nzZ n % 255 = n % 255 := by unfold nzZ; omega
theorem nzZ_of (n x : Int) (h : x % 255 = n % 255) (h0 : 1 ≤ x) (h1 : x ≤ 255) : nzZ n = x := by unfold nzZ; omega

/-- The list in three parts, with x and y at the places k and k + 1. -/
def putZ (zs : List Int) (k : Nat) (x y : Int) : List Int := (zs.set k x).set (k + 1) y
theorem putZ_parts (zs : List Int) (k : Nat) (x y : Int) (h : k + 1 < zs.length) : putZ zs k x y = zs.take k ++ [x, y] ++ zs.drop (k + 2) := by
  unfold putZ
  apply List.ext_getElem
  · simp; omega
  · intro i h1 h2
    simp only [List.getElem_set, List.getElem_append, List.length_take, List.length_append, List.length_cons, List.length_nil, List.getElem_take, List.getElem_drop]
    simp at h1
    by_cases a : i < k
    · simp [show ¬ k + 1 = i by omega, show ¬ k = i by omega, show i < min k zs.length + 2 by omega, show i < min k zs.length by omega]
    · by_cases b : i = k
      · subst b; simp [show i < min i zs.length + 2 by omega, show ¬ i < min i zs.length by omega, show i - min i zs.length = 0 by omega]
      · by_cases c : i = k + 1
        · subst c; simp [show k + 1 < min k zs.length + 2 by omega, show ¬ k + 1 < min k zs.length by omega, show k + 1 - min k zs.length = 1 by omega]
        · simp [show ¬ k + 1 = i by omega, show ¬ k = i by omega, show ¬ i < min k zs.length + 2 by omega]
          congr 1; omega
theorem putZ_length (zs : List Int) (k : Nat) (x y : Int) : (putZ zs k x y).length = zs.length := by simp [putZ]
theorem putZ_same (zs : List Int) (k : Nat) (h : k + 1 < zs.length) : putZ zs k (zs.getD k 0) (zs.getD (k + 1) 0) = zs := by
  unfold putZ
  apply List.ext_getElem
  · simp
  · intro i h1 h2
    simp only [List.getElem_set]
    split
    · subst_vars; simp [h2]
    · split
      · subst_vars; simp [h2]
      · rfl
theorem sumZ_put (zs : List Int) (k : Nat) (x y : Int) (h : k + 1 < zs.length) : sumZ (putZ zs k x y) = sumZ (holeZ zs k) + x + y := by
  rw [show holeZ zs k = putZ zs k 0 0 from rfl, putZ_parts _ _ _ _ h, putZ_parts _ _ _ _ h]
  simp only [sumZ_append, sumZ]; omega
theorem wsumZ_put (zs : List Int) (k : Nat) (x y : Int) (h : k + 1 < zs.length) :
    wsumZ (putZ zs k x y) = wsumZ (holeZ zs k) + ((zs.length : Int) - k) * x + ((zs.length : Int) - k - 1) * y := by
  rw [show holeZ zs k = putZ zs k 0 0 from rfl, putZ_parts _ _ _ _ h, putZ_parts _ _ _ _ h]
  have e : ((zs.drop (k + 2)).length : Int) = (zs.length : Int) - k - 2 := by simp; omega
  simp only [wsumZ_append, sumZ_append, sumZ, wsumZ, List.length_cons, List.length_nil, e]
  push_cast
  grind

theorem mod_zero_add {a b : Int} (h : a % 255 = 0) : (a + b) % 255 = b % 255 := by omega

/-- The two bytes reckoned off the sums with what stands there counted in. -/
theorem fst_prog (zs : List Int) (k : Nat) (h : k + 1 < zs.length) :
    nzZ (zs.getD k 0 + ((zs.length : Int) - k - 1) * cZ zs - dZ zs) = fstZ zs k := by
  have e1 := sumZ_put zs k (zs.getD k 0) (zs.getD (k + 1) 0) h
  have e2 := wsumZ_put zs k (zs.getD k 0) (zs.getD (k + 1) 0) h
  rw [putZ_same zs k h] at e1 e2
  apply nzZ_eq
  apply Int.emod_emod_of_dvd _ (Int.dvd_refl 255) |>.symm.trans
  have m1 : ∃ q, cZ zs = sumZ zs - 255 * q := ⟨sumZ zs / 255, by unfold cZ; omega⟩
  have m2 : ∃ q, dZ zs = wsumZ zs - 255 * q := ⟨wsumZ zs / 255, by unfold dZ; omega⟩
  obtain ⟨q1, m1⟩ := m1
  obtain ⟨q2, m2⟩ := m2
  have : zs.getD k 0 + ((zs.length : Int) - k - 1) * cZ zs - dZ zs = (((zs.length : Int) - k - 1) * sumZ (holeZ zs k) - wsumZ (holeZ zs k)) + 255 * (q2 - ((zs.length : Int) - k - 1) * q1) := by
    rw [m1, m2, e1, e2]; grind
  rw [this]; omega
theorem snd_prog (zs : List Int) (k : Nat) (h : k + 1 < zs.length) :
    nzZ (zs.getD (k + 1) 0 + dZ zs - ((zs.length : Int) - k) * cZ zs) = sndZ zs k := by
  have e1 := sumZ_put zs k (zs.getD k 0) (zs.getD (k + 1) 0) h
  have e2 := wsumZ_put zs k (zs.getD k 0) (zs.getD (k + 1) 0) h
  rw [putZ_same zs k h] at e1 e2
  apply nzZ_eq
  have m1 : ∃ q, cZ zs = sumZ zs - 255 * q := ⟨sumZ zs / 255, by unfold cZ; omega⟩
  have m2 : ∃ q, dZ zs = wsumZ zs - 255 * q := ⟨wsumZ zs / 255, by unfold dZ; omega⟩
  obtain ⟨q1, m1⟩ := m1
  obtain ⟨q2, m2⟩ := m2
  have : zs.getD (k + 1) 0 + dZ zs - ((zs.length : Int) - k) * cZ zs = (wsumZ (holeZ zs k) - ((zs.length : Int) - k) * sumZ (holeZ zs k)) + 255 * (((zs.length : Int) - k) * q1 - q2) := by
    rw [m1, m2, e1, e2]; grind
  rw [this]; omega

/-- The same by the document's reckoning, off the sums with noughts in the two places. -/
theorem fst_ref (n k c d s w : Int) (hc : c = s % 255) (hd : d = w % 255) (hk : k = n % 255) : nzZ (k * c - d + 255) = nzZ (n * s - w) := by
  apply nzZ_eq
  have m1 : s = c + 255 * (s / 255) := by omega
  have m2 : w = d + 255 * (w / 255) := by omega
  have m3 : n = k + 255 * (n / 255) := by omega
  have : n * s - w = (k * c - d + 255) + 255 * (k * (s / 255) + (n / 255) * c + 255 * ((n / 255) * (s / 255)) - (w / 255) - 1) := by
    conv => lhs; rw [m1, m2, m3]
    grind
  rw [this]; omega
theorem snd_ref (n c s w x : Int) (hc : c = s % 255) (hx : x % 255 = ((n - 1) * s - w) % 255) : nzZ (510 - c - x) = nzZ (w - n * s) := by
  apply nzZ_eq
  have : w - n * s = - s - ((n - 1) * s - w) := by grind
  rw [this]; omega

/-- Good: both are nought; of a list with x and y put in. -/
theorem good_put (zs : List Int) (k : Nat) (h : k + 1 < zs.length) : goodB (putZ zs k (fstZ zs k) (sndZ zs k)) = true := by
  have f := nzZ_mod (((zs.length : Int) - k - 1) * sumZ (holeZ zs k) - wsumZ (holeZ zs k))
  have s := nzZ_mod (wsumZ (holeZ zs k) - ((zs.length : Int) - k) * sumZ (holeZ zs k))
  rw [show nzZ (((zs.length : Int) - k - 1) * sumZ (holeZ zs k) - wsumZ (holeZ zs k)) = fstZ zs k from rfl] at f
  rw [show nzZ (wsumZ (holeZ zs k) - ((zs.length : Int) - k) * sumZ (holeZ zs k)) = sndZ zs k from rfl] at s
  have e1 := sumZ_put zs k (fstZ zs k) (sndZ zs k) h
  have e2 := wsumZ_put zs k (fstZ zs k) (sndZ zs k) h
  unfold goodB cZ dZ
  rw [e1, e2]
  generalize fstZ zs k = x at *
  generalize sndZ zs k = y at *
  generalize sumZ (holeZ zs k) = S at *
  generalize wsumZ (holeZ zs k) = T at *
  generalize (zs.length : Int) - k = n at *
  obtain ⟨q1, hx⟩ : ∃ q, x = (n - 1) * S - T + 255 * q := ⟨(x - ((n - 1) * S - T)) / 255, by omega⟩
  obtain ⟨q2, hy⟩ : ∃ q, y = T - n * S + 255 * q := ⟨(y - (T - n * S)) / 255, by omega⟩
  have a1 : S + x + y = 255 * (q1 + q2) := by rw [hx, hy]; grind
  have a2 : T + n * x + (n - 1) * y = 255 * (n * q1 + (n - 1) * q2) := by rw [hx, hy]; grind
  rw [a1, a2]; simp
theorem good_only (zs : List Int) (k : Nat) (x y : Int) (h : k + 1 < zs.length) (x0 : 1 ≤ x) (x1 : x ≤ 255) (y0 : 1 ≤ y) (y1 : y ≤ 255) (g : goodB (putZ zs k x y) = true) : x = fstZ zs k ∧ y = sndZ zs k := by
  have e1 := sumZ_put zs k x y h
  have e2 := wsumZ_put zs k x y h
  unfold goodB cZ dZ at g
  rw [e1, e2] at g
  simp only [decide_eq_true_eq] at g
  obtain ⟨g1, g2⟩ := g
  unfold fstZ sndZ
  generalize sumZ (holeZ zs k) = S at *
  generalize wsumZ (holeZ zs k) = T at *
  generalize (zs.length : Int) - k = n at *
  obtain ⟨q1, h1⟩ : ∃ q, S + x + y = 255 * q := ⟨(S + x + y) / 255, by omega⟩
  obtain ⟨q2, h2⟩ : ∃ q, T + n * x + (n - 1) * y = 255 * q := ⟨(T + n * x + (n - 1) * y) / 255, by omega⟩
  have a1 : (n - 1) * S - T = x + 255 * ((n - 1) * q1 - q2) := by grind
  have a2 : T - n * S = y + 255 * (q2 - n * q1) := by grind
  constructor
  · rw [a1]; unfold nzZ; omega
  · rw [a2]; unfold nzZ; omega
theorem sumZ_set : ∀ (zs : List Int) (k : Nat) (x : Int), k < zs.length → sumZ (zs.set k x) = sumZ zs - zs.getD k 0 + x
  | [], k, x, h => by simp at h
  | a :: r, 0, x, _ => by simp [sumZ]; omega
  | a :: r, k + 1, x, h => by
    have := sumZ_set r k x (by simpa using h)
    simp [sumZ, this]; omega
/-- One byte turned, not from 0 to 255 or back: no longer good. -/
theorem good_turned (zs : List Int) (k : Nat) (v : Int) (h : k < zs.length) (g : goodB zs = true) (hv : v ≠ zs.getD k 0) (b0 : 0 ≤ v) (b1 : v ≤ 255) (c0 : 0 ≤ zs.getD k 0) (c1 : zs.getD k 0 ≤ 255)
    (o1 : ¬ (zs.getD k 0 = 0 ∧ v = 255)) (o2 : ¬ (zs.getD k 0 = 255 ∧ v = 0)) : goodB (zs.set k v) = false := by
  have e := sumZ_set zs k v h
  unfold goodB cZ dZ at *
  simp only [decide_eq_true_eq] at g
  obtain ⟨g1, _⟩ := g
  simp only [decide_eq_false_iff_not]
  rintro ⟨h1, _⟩
  rw [e] at h1
  omega
end Go.Proofs.Ytmcemhkhgccojaa
/- Plain facts on bits of an int, no program in it. -/
namespace Go.Proofs.Ytmcemhkhgccojaa
open Go Go.RowKit

theorem ofInt64_toNat (a : Int) : (BitVec.ofInt 64 a).toNat = (a % 18446744073709551616).toNat := by
  simp [BitVec.toNat_ofInt]

theorem nat_and_field (x i j : Nat) : x &&& (2 ^ i * (2 ^ j - 1)) = x / 2 ^ i % 2 ^ j * 2 ^ i := by
  apply Nat.eq_of_testBit_eq
  intro k
  rw [Nat.testBit_and, Nat.mul_comm (2 ^ i), Nat.testBit_mul_two_pow, Nat.testBit_mul_two_pow, Nat.testBit_two_pow_sub_one, Nat.testBit_mod_two_pow, Nat.testBit_div_two_pow]
  by_cases h : i ≤ k
  · simp [h, Nat.sub_add_cancel h, Bool.and_comm]
  · simp [h]

theorem int_field (a : Int) (i j : Nat) (h : i + j ≤ 64) : a % 18446744073709551616 / 2 ^ i % 2 ^ j = a / 2 ^ i % 2 ^ j := by
  have e : a = a % 18446744073709551616 + 2 ^ i * (2 ^ (64 - i) * (a / 18446744073709551616)) := by
    have h1 := Int.emod_add_mul_ediv a 18446744073709551616
    have h2 : (2 : Int) ^ i * 2 ^ (64 - i) = 18446744073709551616 := by
      rw [← Int.pow_add, show i + (64 - i) = 64 by omega]; rfl
    rw [← Int.mul_assoc, h2]; omega
  have hp : (2 : Int) ^ i ≠ 0 := by
    have : (0 : Int) < 2 ^ i := Int.pow_pos (by decide)
    omega
  have h3 : (2 : Int) ^ (64 - i) = 2 ^ j * 2 ^ (64 - i - j) := by
    rw [← Int.pow_add, show j + (64 - i - j) = 64 - i by omega]
  conv => rhs; rw [e, Int.add_mul_ediv_left _ _ hp, h3, Int.mul_assoc, Int.add_mul_emod_self_left]

theorem and_field (a : Int) (i j : Nat) (h : i + j ≤ 62) : bits .and .i64 a (2 ^ i * (2 ^ j - 1)) = a / 2 ^ i % 2 ^ j * 2 ^ i := by
  have hm : (2 ^ i * (2 ^ j - 1) : Nat) < 2 ^ 62 := by
    have h1 : 2 ^ i * 2 ^ j ≤ 2 ^ 62 := by rw [← Nat.pow_add]; exact Nat.pow_le_pow_right (by decide) h
    have h2 : 0 < 2 ^ i := Nat.two_pow_pos i
    have h3 : 0 < 2 ^ j := Nat.two_pow_pos j
    have h4 : 2 ^ i * (2 ^ j - 1) < 2 ^ i * 2 ^ j := Nat.mul_lt_mul_of_pos_left (by omega) h2
    omega
  have hc : ((2 : Int) ^ i * (2 ^ j - 1)) = ((2 ^ i * (2 ^ j - 1) : Nat) : Int) := by
    have h3 : 0 < 2 ^ j := Nat.two_pow_pos j
    rw [Int.natCast_mul, Int.natCast_sub h3]; simp
  rw [hc]
  have e1 : (BitVec.ofInt 64 ((2 ^ i * (2 ^ j - 1) : Nat) : Int)).toNat = 2 ^ i * (2 ^ j - 1) := by
    rw [ofInt64_toNat]
    have : (2 : Nat) ^ 62 = 4611686018427387904 := by decide
    omega
  show IntKind.i64.wrap _ = _
  have e2 : (BitVec.ofInt 64 a &&& BitVec.ofInt 64 ((2 ^ i * (2 ^ j - 1) : Nat) : Int)).toNat = (a % 18446744073709551616).toNat / 2 ^ i % 2 ^ j * 2 ^ i := by
    rw [BitVec.toNat_and, e1, ofInt64_toNat, nat_and_field]
  have e3 : (((a % 18446744073709551616).toNat / 2 ^ i % 2 ^ j * 2 ^ i : Nat) : Int) = a / 2 ^ i % 2 ^ j * 2 ^ i := by
    rw [← int_field a i j (by omega), Int.natCast_mul, Int.natCast_emod, Int.natCast_ediv, Int.toNat_of_nonneg (Int.emod_nonneg _ (by decide))]
    simp
  have e4 : (a % 18446744073709551616).toNat / 2 ^ i % 2 ^ j * 2 ^ i < 4611686018427387904 := by
    have h1 : (a % 18446744073709551616).toNat / 2 ^ i % 2 ^ j ≤ 2 ^ j - 1 := by
      have := Nat.mod_lt ((a % 18446744073709551616).toNat / 2 ^ i) (Nat.two_pow_pos j); omega
    have h2 := Nat.mul_le_mul_right (2 ^ i) h1
    have h5 : (2 : Nat) ^ 62 = 4611686018427387904 := by decide
    rw [Nat.mul_comm (2 ^ j - 1)] at h2
    omega
  have e5 : IntKind.i64.wrap (((BitVec.ofInt 64 a &&& BitVec.ofInt 64 ((2 ^ i * (2 ^ j - 1) : Nat) : Int)).toNat : Nat) : Int) = a / 2 ^ i % 2 ^ j * 2 ^ i := by
    rw [e2, IntKind.wrap_i64]
    rw [← e3]
    omega
  exact e5

theorem and_255 (a : Int) : bits .and .i64 a 255 = a % 256 := by
  have := and_field a 0 8 (by decide)
  simpa using this
theorem and_32 (a : Int) : bits .and .i64 a 4294967295 = a % 4294967296 := by
  have := and_field a 0 32 (by decide)
  simpa using this
theorem and_65535 (a : Int) : bits .and .i64 a 65535 = a % 65536 := by
  have := and_field a 0 16 (by decide)
  simpa using this
theorem wraps62 (n : Int) (h₀ : 0 ≤ n) (h₁ : n < 2 ^ 62) : IntKind.i64.wrap n = n := by rw [IntKind.wrap_i64]; omega
theorem or_byte (a b : Int) (ha : 0 ≤ a) (h1 : a ≤ 4503599627370495) (hb : 0 ≤ b) (h2 : b ≤ 255) : bits .or .i64 (a * 256) b = a * 256 + b :=
  bits_join .i64 62 (by decide) wraps62 8 (a * 256) b (by omega) (by omega) (by omega) hb (by omega) (by omega)
end Go.Proofs.Ytmcemhkhgccojaa
/- Bytes that lie somewhere; what is of no program. -/
namespace Go.Proofs.Ytmcemhkhgccojaa
open Go.RowKit

theorem ret_int {k : IntKind} {a b : Int} (h : a = b) : Ending.returned (.int k a) = .returned (.int k b) := by rw [h]
theorem ret_bool {a b : Bool} (h : a = b) : Ending.returned (.bool a) = .returned (.bool b) := by rw [h]
theorem ret_two {a b c d : Int} (h : a = b) (h' : c = d) : Ending.returned (.tuple #[.int .i64 a, .int .i64 c]) = .returned (.tuple #[.int .i64 b, .int .i64 d]) := by rw [h, h']

/-- The bytes zs lie at that address (at whatever one, where there are none). -/
def Bts (w : World) (a : Option Addr) (zs : List Int) : Prop :=
  zs = [] ∨ ∃ b off, a = some ⟨b, off, none⟩ ∧ ∀ i, i < zs.length → w.cell? ⟨b, off + i, none⟩ = some (.int .u8 (zs.getD i 0))
def AreBytes (zs : List Int) : Prop := ∀ z ∈ zs, 0 ≤ z ∧ z ≤ 255
theorem Bts.below {w w' : World} {a : Option Addr} {zs : List Int} (h : Bts w a zs) (hb : Below w.heap.size w w') : Bts w' a zs := by
  rcases h with h | ⟨b, off, rfl, hc⟩
  · exact .inl h
  · refine .inr ⟨b, off, rfl, fun i hi => ?_⟩
    have := hc i hi
    rw [hb.cell (by
      show b < _
      rcases Nat.lt_or_ge b w.heap.size with h | h
      · exact h
      · simp [World.cell?, Array.getElem?_eq_none h] at this)]
    exact this
theorem Bts.tail4 {w : World} {b off c : Nat} {x0 x1 x2 x3 : Int} {rs : List Int} (h : Bts w (some ⟨b, off, none⟩) (x0 :: x1 :: x2 :: x3 :: rs)) (hc : rs.length ≤ c - 4) :
    Bts w (if c = 4 then some ⟨b, off, none⟩ else some ⟨b, off + 4, none⟩) rs := by
  rcases h with h | ⟨b', off', e, hcell⟩
  · cases h
  · by_cases h4 : c = 4
    · exact .inl (List.eq_nil_of_length_eq_zero (by omega))
    · simp only [Option.some.injEq, Addr.mk.injEq] at e
      obtain ⟨rfl, rfl, _⟩ := e
      refine .inr ⟨b, off + 4, by rw [if_neg h4], fun i hi => ?_⟩
      have := hcell (i + 4) (by simp; omega)
      rw [show off + 4 + i = off + (i + 4) by omega, this]; simp
def lenOf : Value → Nat | .slice _ n _ => n | _ => 0
theorem words_step {s x0 x1 x2 x3 W : Int} {rs : List Int} (h : s + wordsZ (x0 :: x1 :: x2 :: x3 :: rs) = W) : s + (x0 * 256 + x1 + x2 * 256 + x3) + wordsZ rs = W := by
  simp only [wordsZ] at h; omega
theorem list0 {rs : List Int} (h : rs.length = 0) : rs = [] := List.eq_nil_of_length_eq_zero h
theorem list1 {rs : List Int} (h : rs.length = 1) : ∃ a, rs = [a] := by
  match rs, h with
  | [a], _ => exact ⟨a, rfl⟩
theorem list2 {rs : List Int} (h : rs.length = 2) : ∃ a b, rs = [a, b] := by
  match rs, h with
  | [a, b], _ => exact ⟨a, b, rfl⟩
theorem list3 {rs : List Int} (h : rs.length = 3) : ∃ a b c, rs = [a, b, c] := by
  match rs, h with
  | [a, b, c], _ => exact ⟨a, b, c, rfl⟩
theorem list4 {rs : List Int} (h : 4 ≤ rs.length) : ∃ a b c d r, rs = a :: b :: c :: d :: r := by
  match rs, h with
  | a :: b :: c :: d :: r, _ => exact ⟨a, b, c, d, r, rfl⟩

theorem areBytes_getD {zs : List Int} (h : AreBytes zs) (k : Nat) : 0 ≤ zs.getD k 0 ∧ zs.getD k 0 ≤ 255 := by
  rcases Nat.lt_or_ge k zs.length with hk | hk
  · rw [List.getD_eq_getElem?_getD, List.getElem?_eq_getElem hk]; exact h _ (List.getElem_mem hk)
  · rw [List.getD_eq_getElem?_getD, List.getElem?_eq_none hk]; simp
theorem areBytes_take {zs : List Int} (h : AreBytes zs) (k : Nat) : AreBytes (zs.take k) := fun z hz => h z (List.mem_of_mem_take hz)
end Go.Proofs.Ytmcemhkhgccojaa
/- Plain facts on numbers as bytes. -/
namespace Go.Proofs.Ytmcemhkhgccojaa

/-- The low k bytes of a number, the high one first. -/
def beN : Nat → Int → List Int
  | 0, _ => []
  | k + 1, n => n / 2 ^ (8 * k) % 256 :: beN k n
def be2 (n : Int) : List Int := [n / 256 % 256, n % 256]
def be4 (n : Int) : List Int := [n / 16777216 % 256, n / 65536 % 256, n / 256 % 256, n % 256]
theorem beN_2 (n : Int) : beN 2 n = be2 n := by simp [beN, be2]
theorem beN_4 (n : Int) : beN 4 n = be4 n := by simp [beN, be4]
theorem beN_length : ∀ (k : Nat) (n : Int), (beN k n).length = k
  | 0, _ => rfl
  | k + 1, n => by simp [beN, beN_length k n]
theorem beN_zero : ∀ k : Nat, beN k 0 = List.replicate k 0
  | 0 => rfl
  | k + 1 => by simp [beN, beN_zero k, List.replicate_succ]
/-- Bytes as a number, the high one first. -/
def numZ (zs : List Int) : Int := zs.foldl (fun n v => n * 256 + v) 0
def num4 (a b c d : Int) : Int := ((a * 256 + b) * 256 + c) * 256 + d
def rightI (a : Int) : Bool := decide (0 ≤ a ∧ a ≤ 4294967295)

theorem be2_bd (n : Int) : ∀ z ∈ be2 n, 0 ≤ z ∧ z ≤ 255 := by intro z hz; simp [be2] at hz; omega
theorem be4_bd (n : Int) : ∀ z ∈ be4 n, 0 ≤ z ∧ z ≤ 255 := by intro z hz; simp [be4] at hz; omega
theorem num4_bd (a b c d : Int) (ha : 0 ≤ a ∧ a ≤ 255) (hb : 0 ≤ b ∧ b ≤ 255) (hc : 0 ≤ c ∧ c ≤ 255) (hd : 0 ≤ d ∧ d ≤ 255) : 0 ≤ num4 a b c d ∧ num4 a b c d ≤ 4294967295 := by unfold num4; omega
theorem be4_num4 (a b c d : Int) (ha : 0 ≤ a ∧ a ≤ 255) (hb : 0 ≤ b ∧ b ≤ 255) (hc : 0 ≤ c ∧ c ≤ 255) (hd : 0 ≤ d ∧ d ≤ 255) : be4 (num4 a b c d) = [a, b, c, d] := by
  unfold be4 num4
  have h1 : (((a * 256 + b) * 256 + c) * 256 + d) / 16777216 % 256 = a := by omega
  have h2 : (((a * 256 + b) * 256 + c) * 256 + d) / 65536 % 256 = b := by omega
  have h3 : (((a * 256 + b) * 256 + c) * 256 + d) / 256 % 256 = c := by omega
  have h4 : (((a * 256 + b) * 256 + c) * 256 + d) % 256 = d := by omega
  rw [h1, h2, h3, h4]
theorem num4_be4 (n : Int) (h0 : 0 ≤ n) (h1 : n ≤ 4294967295) : num4 (n / 16777216 % 256) (n / 65536 % 256) (n / 256 % 256) (n % 256) = n := by unfold num4; omega
end Go.Proofs.Ytmcemhkhgccojaa
/- Rows of bytes that a call itself made: appended to, stored into, read; no walk in it. -/
namespace Go.Proofs.Ytmcemhkhgccojaa
open Go.RowKit

theorem addr_add (b off j : Nat) : (⟨b, off, none⟩ : Addr).add j = ⟨b, off + j, none⟩ := by
  unfold Addr.add; split
  · subst_vars; rfl
  · rfl
theorem info_u8 : (Try.prog.info? 5).map (fun i => (i.zero, i.size, i.bytes)) = some (some (.int .u8 0), 1, 1) := by kernel_rfl

/-- The row at the head of block g, from base on, is the call's own and holds the bytes zs. -/
def Owns (w : World) (base g cap : Nat) (zs : List Int) : Prop := w.ownsRow base 5 1 (.slice (some ⟨g, 0, none⟩) zs.length cap) zs.length (zs.map (Value.int .u8))
theorem Owns.cell {w : World} {base g cap : Nat} {zs : List Int} (h : Owns w base g cap zs) (i : Nat) (hi : i < zs.length) : w.cell? ⟨g, i, none⟩ = some (.int .u8 (zs.getD i 0)) := by
  have := World.ownsRow.cellAt h i (by omega)
  rw [this]; simp [hi]
theorem Owns.bts {w : World} {base g cap : Nat} {zs : List Int} (h : Owns w base g cap zs) : Bts w (some ⟨g, 0, none⟩) zs :=
  .inr ⟨g, 0, rfl, fun i hi => by rw [Nat.zero_add]; exact h.cell i hi⟩
theorem Owns.frozen {w : World} {base g cap : Nat} {zs : List Int} (h : Owns w base g cap zs) (i : Nat) : w.frozen? ⟨g, i, none⟩ = false := World.ownsRow.frozenAt h i
theorem Owns.lt {w : World} {base g cap : Nat} {zs : List Int} (h : Owns w base g cap zs) : base ≤ g ∧ g < w.heap.size := World.ownsRow.lt h g rfl
theorem Owns.cap {w : World} {base g cap : Nat} {zs : List Int} (h : Owns w base g cap zs) : zs.length ≤ cap := by
  rcases h.2 with ⟨h', _⟩ | ⟨g', cap', cur, h', _, _, hnc, _⟩
  · cases h'
  · simp only [Value.slice.injEq] at h'; omega
theorem Owns.stored {w : World} {base g cap : Nat} {zs : List Int} (h : Owns w base g cap zs) (i : Nat) (v : Int) : Owns (w.setCell ⟨g, i, none⟩ (.int .u8 v)) base g cap (zs.set i v) := by
  have := (World.ownsRow.stored h i (.int .u8 v)).1
  unfold Owns
  rw [List.length_set, List.map_set]
  exact this
theorem Owns.below {w w' : World} {base g cap : Nat} {zs : List Int} (h : Owns w base g cap zs) (hb : Below w.heap.size w w') : Owns w' base g cap zs := by
  have hlt := h.lt
  rcases h.2 with ⟨h', _⟩ | ⟨g', cap', cur, h', hbg, hg, r⟩
  · cases h'
  · have e : g' = g := by simp only [Value.slice.injEq, Option.some.injEq, Addr.mk.injEq] at h'; omega
    subst e
    exact ⟨h.1, .inr ⟨g', cap', cur, h', hbg, by rw [hb.block _ hlt.2]; exact hg, r⟩⟩
theorem Owns.drew {w : World} {base g cap : Nat} {zs : List Int} (h : Owns w base g cap zs) : Owns w.drew base g cap zs := h.below (Below.refl _ _).drew

theorem Bts.belowN {w w' : World} {N : Nat} {a : Option Addr} {zs : List Int} (h : Bts w a zs) (hb : Below N w w') (hN : w.heap.size ≤ N) : Bts w' a zs := h.below (hb.mono hN)
theorem Owns.belowN {w w' : World} {N base g cap : Nat} {zs : List Int} (h : Owns w base g cap zs) (hb : Below N w w') (hN : w.heap.size ≤ N) : Owns w' base g cap zs := h.below (hb.mono hN)
theorem below_more {a b c : World} {N M : Nat} (h : Below M a b) (k : Below N b c) (hN : M ≤ N) : Below M a c := h.trans (k.mono hN)
theorem bts_one (W : World) (a : Int) : Bts (W.alloc (.cells #[.int .u8 a] 5)) (some ⟨W.heap.size, 0, none⟩) [a] :=
  .inr ⟨_, 0, rfl, fun i hi => by
    have : i = 0 := by simpa using hi
    subst this; simp⟩
theorem bts_two (W : World) (a b : Int) : Bts (W.alloc (.cells #[.int .u8 a, .int .u8 b] 5)) (some ⟨W.heap.size, 0, none⟩) [a, b] :=
  .inr ⟨_, 0, rfl, fun i hi => by
    have : i = 0 ∨ i = 1 := by simp at hi; omega
    rcases this with rfl | rfl <;> simp⟩
theorem Owns.alloc {w : World} {base g cap : Nat} {zs : List Int} (h : Owns w base g cap zs) (o : Obj) : Owns (w.alloc o) base g cap zs := h.below ((Below.refl _ _).alloc (Nat.le_refl _) _)
theorem Owns.grown {w w' : World} {base g g' cap : Nat} {zs : List Int} (h : Owns w base g cap zs) (hg : w.grownBy w' (some g')) (hne : g ≠ g') : Owns w' base g cap zs :=
  World.ownsRow.kept h hg (.inr (by simp [Value.ownBlock, hne]))
theorem maps_len (l : List Int) : (l.map (Value.int .u8)).length = l.length := by simp

/-- What an append to an own row of bytes leaves. -/
theorem wp_append_bytes {ops : Array Oper} {rest : List Oper} {o : Oper} {a : Act} {Q : Exit → Act → World → Prop} (w : World) (hgd : o.guard = none) (s x : Operand)
    (ho : o.op = .call { callee := .builtin .append, args := #[s, x], argTypes := #[78, 78] }) (base g cap : Nat) (ys : List Int) (n : Nat) (hs : a.eval s = .slice (some ⟨g, 0, none⟩) n cap) (hn : n = ys.length) (hown : Owns w base g cap ys)
    (ax : Option Addr) (m c : Nat) (hx : a.eval x = .slice ax m c) (zs : List Int) (hm : m = zs.length) (hB : Bts w ax zs) (hnil : ax = none → c = 0) (hl : ys.length + zs.length ≤ 140737488355328) (hbase : base ≤ w.heap.size)
    (h : ∀ g' cp w', Owns w' base g' cp (ys ++ zs) → w.grownBy w' (some g) → wpList Try.prog ops Q rest (a.put o.dst (.slice (some ⟨g', 0, none⟩) (n + m) cp)) w') : wpList Try.prog ops Q (o :: rest) a w := by
  subst hn hm
  obtain ⟨i, hi, hz0, hz1, hz2⟩ := info_parts info_u8
  cases ax with
  | none =>
    have hzs : zs = [] := by
      rcases hB with e | ⟨_, _, e, _⟩
      · exact e
      · cases e
    subst hzs
    have hc0 := hnil rfl
    subst hc0
    refine wpList_append_own_none hgd s x 78 ho base 5 i 1 Try.underlying78 hi _ ys.length _ hs hown hx ?_
    have := h g cap w (by simpa using hown) ⟨rfl, rfl, rfl, Nat.le_refl _, fun _ _ _ => rfl⟩
    simpa using this
  | some ad =>
    refine wpList_append_own w hgd s x 78 ho base 5 i (.int .u8 0) 1 1 Try.underlying78 hi hz0 hz1 hz2 rfl (by decide) _ ys.length _ hs hown ad zs.length c (zs.map (Value.int .u8)) hx (by simp) ?_ ?_ (by unfold maxLen; omega) (by omega) hbase ?_
    · intro j u hj
      have hjl : j < zs.length := by
        have := (List.getElem?_eq_some_iff.1 hj).1; simpa using this
      rcases hB with e | ⟨b, off, e, hc⟩
      · subst e; simp at hjl
      · cases e
        have hu : u = .int .u8 (zs.getD j 0) := by
          simp [hjl] at hj
          simp [hjl, hj]
        rw [hu, ← hc j hjl, addr_add]
    · intro u hu
      simp at hu
      obtain ⟨z, _, rfl⟩ := hu
      rfl
    · intro v' w' hown' hgrow hnil'
      have hown2 : w'.ownsRow base 5 1 v' (ys ++ zs).length ((ys ++ zs).map (Value.int .u8)) := by simpa using hown'
      rcases hown2.2 with ⟨h', _⟩ | ⟨g', cap', cur, h', _⟩
      · exact absurd (hnil'.1 h').1 (by simp)
      · subst h'
        have := h g' cap' w' hown2 hgrow
        simpa using this
/-- A copy of bytes: an empty row of the call's own, just made, appended to. -/
theorem wp_copy_bytes {ops : Array Oper} {rest : List Oper} {o : Oper} {a : Act} {Q : Exit → Act → World → Prop} (W : World) (N : Nat) (hN : N = W.heap.size) (hgd : o.guard = none) (s x : Operand)
    (ho : o.op = .call { callee := .builtin .append, args := #[s, x], argTypes := #[78, 78] }) (hs : a.eval s = .slice (some ⟨N, 0, none⟩) 0 0)
    (ax : Option Addr) (m c : Nat) (hx : a.eval x = .slice ax m c) (zs : List Int) (hm : m = zs.length) (hB : Bts W ax zs) (hnil : ax = none → c = 0) (hl : zs.length ≤ 140737488355328)
    (h : ∀ g cp w', Owns w' W.heap.size g cp zs → Below W.heap.size W w' → wpList Try.prog ops Q rest (a.put o.dst (.slice (some ⟨g, 0, none⟩) m cp)) w') : wpList Try.prog ops Q (o :: rest) a (W.alloc (.cells #[] 5)) := by
  subst hN
  have hb0 : Below W.heap.size W (W.alloc (.cells #[] 5)) := (Below.refl _ _).alloc (Nat.le_refl _) _
  refine wp_append_bytes (W.alloc (.cells #[] 5)) hgd s x ho W.heap.size W.heap.size 0 [] 0 hs rfl (World.ownsRow_lit W #[] 0 (Nat.le_refl _) (by decide) rfl) ax m c hx zs hm (hB.below hb0) hnil (by simpa using hl) (by simp) ?_
  intro g' cp w' h1 h2
  have := h g' cp w' h1 (hb0.grown h2 (by simp) (fun k hk => by cases hk; exact Nat.le_refl _))
  rw [Nat.zero_add]; exact this
end Go.Proofs.Ytmcemhkhgccojaa
/- Variables of several cells that can be written. -/
namespace Go.Proofs.Ytmcemhkhgccojaa
open Go.RowKit

/-- The block b is a variable that holds the cells vs. -/
def Var (w : World) (b : Nat) (vs : List Value) : Prop := ∃ t, w.heap[b]? = some (.cells vs.toArray t (0, 0))
theorem Var.lt {w : World} {b : Nat} {vs : List Value} (h : Var w b vs) : b < w.heap.size := by
  obtain ⟨t, h⟩ := h; exact (Array.getElem?_eq_some_iff.1 h).1
theorem Var.cell {w : World} {b : Nat} {vs : List Value} (h : Var w b vs) (i : Nat) {v : Value} (hv : vs[i]? = some v) : w.cell? ⟨b, i, none⟩ = some v := by
  obtain ⟨t, h⟩ := h
  simp [World.cell?, h, hv]
theorem Var.frozen {w : World} {b : Nat} {vs : List Value} (h : Var w b vs) (i : Nat) : w.frozen? ⟨b, i, none⟩ = false := by
  obtain ⟨t, h⟩ := h
  simp [World.frozen?, h]
theorem Var.below {w w' : World} {b N : Nat} {vs : List Value} (h : Var w b vs) (hb : Below N w w') (hN : b < N) : Var w' b vs := by
  obtain ⟨t, h⟩ := h
  exact ⟨t, by rw [hb.block _ hN]; exact h⟩
theorem var_new (w : World) (vs : List Value) (t : TypeId) : Var (w.alloc (.cells vs.toArray t)) w.heap.size vs := ⟨t, heap_alloc_new w _⟩
theorem Var.alloc {w : World} {b : Nat} {vs : List Value} (h : Var w b vs) (o : Obj) : Var (w.alloc o) b vs := by
  have hl := h.lt
  obtain ⟨t, h⟩ := h
  exact ⟨t, by rw [heap_alloc_old w o hl]; exact h⟩
theorem Var.set {w : World} {b : Nat} {vs : List Value} (h : Var w b vs) (i : Nat) (v : Value) : Var (w.setCell ⟨b, i, none⟩ v) b (vs.set i v) := by
  obtain ⟨t, h⟩ := h
  refine ⟨t, ?_⟩
  simp [World.setCell, Array.getElem?_modify, h]
theorem Var.other {w : World} {b b' : Nat} {vs : List Value} (h : Var w b vs) (hne : b' ≠ b) (i : Nat) (v : Value) : Var (w.setCell ⟨b', i, none⟩ v) b vs := by
  obtain ⟨t, h⟩ := h
  refine ⟨t, ?_⟩
  simp [World.setCell, Array.getElem?_modify, h, hne]
theorem Var.drew {w : World} {b : Nat} {vs : List Value} (h : Var w b vs) : Var w.drew b vs := h
theorem Var.put7 {w : World} {b : Nat} {a0 a1 a2 a3 a4 a5 a6 : Value} (h : Var w b [a0, a1, a2, a3, a4, a5, a6]) (v0 v1 v2 v3 v4 v5 v6 : Value) : Var (((((((w.setCell ⟨b, 0, none⟩ v0).setCell ⟨b, 1, none⟩ v1).setCell ⟨b, 2, none⟩ v2).setCell ⟨b, 3, none⟩ v3).setCell ⟨b, 4, none⟩ v4).setCell ⟨b, 5, none⟩ v5).setCell ⟨b, 6, none⟩ v6) b [v0, v1, v2, v3, v4, v5, v6] :=
  h |>.set 0 v0 |>.set 1 v1 |>.set 2 v2 |>.set 3 v3 |>.set 4 v4 |>.set 5 v5 |>.set 6 v6
theorem below_put7 {w0 w : World} {N b : Nat} (h : Below N w0 w) (hb : N ≤ b) (v0 v1 v2 v3 v4 v5 v6 : Value) : Below N w0 (((((((w.setCell ⟨b, 0, none⟩ v0).setCell ⟨b, 1, none⟩ v1).setCell ⟨b, 2, none⟩ v2).setCell ⟨b, 3, none⟩ v3).setCell ⟨b, 4, none⟩ v4).setCell ⟨b, 5, none⟩ v5).setCell ⟨b, 6, none⟩ v6) := by
  have hx : ∀ i, N ≤ (⟨b, i, none⟩ : Addr).block := fun _ => hb
  exact h |>.setCell (hx 0) v0 |>.setCell (hx 1) v1 |>.setCell (hx 2) v2 |>.setCell (hx 3) v3 |>.setCell (hx 4) v4 |>.setCell (hx 5) v5 |>.setCell (hx 6) v6
theorem Var.put7' {w : World} {b b' : Nat} {vs : List Value} (h : Var w b vs) (hne : b' ≠ b) (v0 v1 v2 v3 v4 v5 v6 : Value) : Var (((((((w.setCell ⟨b', 0, none⟩ v0).setCell ⟨b', 1, none⟩ v1).setCell ⟨b', 2, none⟩ v2).setCell ⟨b', 3, none⟩ v3).setCell ⟨b', 4, none⟩ v4).setCell ⟨b', 5, none⟩ v5).setCell ⟨b', 6, none⟩ v6) b vs :=
  h |>.other hne 0 v0 |>.other hne 1 v1 |>.other hne 2 v2 |>.other hne 3 v3 |>.other hne 4 v4 |>.other hne 5 v5 |>.other hne 6 v6
theorem Var.put12 {w : World} {b : Nat} {a0 a1 a2 a3 a4 a5 a6 a7 a8 a9 a10 a11 : Value} (h : Var w b [a0, a1, a2, a3, a4, a5, a6, a7, a8, a9, a10, a11]) (v0 v1 v2 v3 v4 v5 v6 v7 v8 v9 v10 v11 : Value) : Var ((((((((((((w.setCell ⟨b, 0, none⟩ v0).setCell ⟨b, 1, none⟩ v1).setCell ⟨b, 2, none⟩ v2).setCell ⟨b, 3, none⟩ v3).setCell ⟨b, 4, none⟩ v4).setCell ⟨b, 5, none⟩ v5).setCell ⟨b, 6, none⟩ v6).setCell ⟨b, 7, none⟩ v7).setCell ⟨b, 8, none⟩ v8).setCell ⟨b, 9, none⟩ v9).setCell ⟨b, 10, none⟩ v10).setCell ⟨b, 11, none⟩ v11) b [v0, v1, v2, v3, v4, v5, v6, v7, v8, v9, v10, v11] :=
  h |>.set 0 v0 |>.set 1 v1 |>.set 2 v2 |>.set 3 v3 |>.set 4 v4 |>.set 5 v5 |>.set 6 v6 |>.set 7 v7 |>.set 8 v8 |>.set 9 v9 |>.set 10 v10 |>.set 11 v11
theorem below_put12 {w0 w : World} {N b : Nat} (h : Below N w0 w) (hb : N ≤ b) (v0 v1 v2 v3 v4 v5 v6 v7 v8 v9 v10 v11 : Value) : Below N w0 ((((((((((((w.setCell ⟨b, 0, none⟩ v0).setCell ⟨b, 1, none⟩ v1).setCell ⟨b, 2, none⟩ v2).setCell ⟨b, 3, none⟩ v3).setCell ⟨b, 4, none⟩ v4).setCell ⟨b, 5, none⟩ v5).setCell ⟨b, 6, none⟩ v6).setCell ⟨b, 7, none⟩ v7).setCell ⟨b, 8, none⟩ v8).setCell ⟨b, 9, none⟩ v9).setCell ⟨b, 10, none⟩ v10).setCell ⟨b, 11, none⟩ v11) := by
  have hx : ∀ i, N ≤ (⟨b, i, none⟩ : Addr).block := fun _ => hb
  exact h |>.setCell (hx 0) v0 |>.setCell (hx 1) v1 |>.setCell (hx 2) v2 |>.setCell (hx 3) v3 |>.setCell (hx 4) v4 |>.setCell (hx 5) v5 |>.setCell (hx 6) v6 |>.setCell (hx 7) v7 |>.setCell (hx 8) v8 |>.setCell (hx 9) v9 |>.setCell (hx 10) v10 |>.setCell (hx 11) v11
theorem Var.put12' {w : World} {b b' : Nat} {vs : List Value} (h : Var w b vs) (hne : b' ≠ b) (v0 v1 v2 v3 v4 v5 v6 v7 v8 v9 v10 v11 : Value) : Var ((((((((((((w.setCell ⟨b', 0, none⟩ v0).setCell ⟨b', 1, none⟩ v1).setCell ⟨b', 2, none⟩ v2).setCell ⟨b', 3, none⟩ v3).setCell ⟨b', 4, none⟩ v4).setCell ⟨b', 5, none⟩ v5).setCell ⟨b', 6, none⟩ v6).setCell ⟨b', 7, none⟩ v7).setCell ⟨b', 8, none⟩ v8).setCell ⟨b', 9, none⟩ v9).setCell ⟨b', 10, none⟩ v10).setCell ⟨b', 11, none⟩ v11) b vs :=
  h |>.other hne 0 v0 |>.other hne 1 v1 |>.other hne 2 v2 |>.other hne 3 v3 |>.other hne 4 v4 |>.other hne 5 v5 |>.other hne 6 v6 |>.other hne 7 v7 |>.other hne 8 v8 |>.other hne 9 v9 |>.other hne 10 v10 |>.other hne 11 v11
end Go.Proofs.Ytmcemhkhgccojaa
/- Rows that lie somewhere, and rows of a call's own; of no program but its numbers. -/
namespace Go.Proofs.Ytmcemhkhgccojaa
open Go.RowKit

theorem below_new' (w : World) (o : Obj) : Below w.heap.size w (w.alloc o) := (Below.refl _ _).alloc (Nat.le_refl _) _
theorem size_new (w : World) (o : Obj) : (w.alloc o).heap.size = w.heap.size + 1 := by simp
/-- The cells vs lie at that address (at whatever one, where there are none). -/
def Lies (w : World) (a : Option Addr) (vs : List Value) : Prop :=
  vs = [] ∨ ∃ b off, a = some ⟨b, off, none⟩ ∧ ∀ i, i < vs.length → w.cell? ⟨b, off + i, none⟩ = vs[i]?
theorem Lies.below {w w' : World} {a : Option Addr} {vs : List Value} (h : Lies w a vs) (hb : Below w.heap.size w w') : Lies w' a vs := by
  rcases h with h | ⟨b, off, rfl, hc⟩
  · exact .inl h
  · refine .inr ⟨b, off, rfl, fun i hi => ?_⟩
    have := hc i hi
    rw [hb.cell (by
      show b < _
      rcases Nat.lt_or_ge b w.heap.size with h | h
      · exact h
      · simp [World.cell?, Array.getElem?_eq_none h] at this
        exact absurd this (by simp [hi]))]
    exact this
theorem Lies.belowN {w w' : World} {N : Nat} {a : Option Addr} {vs : List Value} (h : Lies w a vs) (hb : Below N w w') (hN : w.heap.size ≤ N) : Lies w' a vs := h.below (hb.mono hN)
def intC (k : Int) : List Value := [.int .i64 k]
def cellsOf {α : Type} (f : α → List Value) (l : List α) : List Value := l.flatMap f
theorem cellsOf_length {α : Type} (f : α → List Value) (m : Nat) (hf : ∀ x, (f x).length = m) (l : List α) : (cellsOf f l).length = l.length * m := by
  induction l with
  | nil => simp [cellsOf]
  | cons x l ih => simp only [cellsOf, List.flatMap_cons, List.length_append, List.length_cons] at *; rw [ih, hf, Nat.add_mul]; omega
theorem cellsOf_at {α : Type} (f : α → List Value) (m : Nat) (hf : ∀ x, (f x).length = m) (l : List α) (i j : Nat) (hi : i < l.length) (hj : j < m) : (cellsOf f l)[i * m + j]? = (f l[i])[j]? := by
  induction l generalizing i with
  | nil => simp at hi
  | cons x l ih =>
    simp only [cellsOf, List.flatMap_cons]
    rcases i with _ | i
    · rw [Nat.zero_mul, Nat.zero_add, List.getElem?_append_left (by rw [hf]; exact hj)]; rfl
    · rw [List.getElem?_append_right (by rw [hf, Nat.add_mul]; omega), hf, show (i + 1) * m + j - m = i * m + j by rw [Nat.add_mul]; omega]
      exact ih i (by simpa using hi)
/-- A list of things of m cells each. -/
theorem Lies.cell {α : Type} {w : World} {a : Option Addr} (f : α → List Value) (m : Nat) (hf : ∀ x, (f x).length = m) {l : List α} (h : Lies w a (cellsOf f l)) (hl : l ≠ []) (hm : 0 < m) :
    ∃ b off, a = some ⟨b, off, none⟩ ∧ ∀ (i j : Nat) (hi : i < l.length), j < m → w.cell? ⟨b, off + (i * m + j), none⟩ = (f l[i])[j]? := by
  rcases h with h | ⟨b, off, rfl, hc⟩
  · exfalso
    have := cellsOf_length f m hf l
    rw [h] at this
    rcases l with _ | ⟨x, l⟩
    · exact hl rfl
    · simp [Nat.add_mul] at this; omega
  · refine ⟨b, off, rfl, fun i j hi hj => ?_⟩
    rw [hc _ (by rw [cellsOf_length f m hf]; exact Nat.lt_of_lt_of_le (Nat.add_lt_add_left hj _) (by rw [← Nat.succ_mul]; exact Nat.mul_le_mul_right _ hi)), cellsOf_at f m hf l i j hi hj]
theorem Ints.cells {w : World} {a : Option Addr} {l : List Int} (h : Lies w a (cellsOf intC l)) (i : Nat) (hi : i < l.length) :
    ∃ b off, a = some ⟨b, off, none⟩ ∧ w.cell? ⟨b, off + i, none⟩ = some (.int .i64 l[i]) := by
  obtain ⟨b, off, rfl, hc⟩ := h.cell intC 1 (fun _ => rfl) (by rintro rfl; simp at hi) (by omega)
  have := hc i 0 hi (by omega)
  rw [Nat.mul_one, Nat.add_zero] at this
  exact ⟨b, off, rfl, this⟩
theorem grown_none {w w' : World} (h : w.grownBy w' none) : Below w.heap.size w w' := (Below.refl _ _).grown h (Nat.le_refl _) (fun k hk => by cases hk)
theorem owns_lies {w : World} {base e size g n cap : Nat} {vs : List Value} (h : w.ownsRow base e size (.slice (some ⟨g, 0, none⟩) n cap) n vs) : Lies w (some ⟨g, 0, none⟩) vs :=
  .inr ⟨g, 0, rfl, fun i hi => by
    have := World.ownsRow.cells h (g := g) rfl i vs[i] (List.getElem?_eq_getElem hi)
    rw [addr_add] at this
    rw [this, List.getElem?_eq_getElem hi]⟩
theorem Lies.at {w : World} {ad : Addr} {vs : List Value} (h : Lies w (some ad) vs) : ∀ j u, vs[j]? = some u → w.cell? (ad.add j) = some u := by
  intro j u hj
  have hjl : j < vs.length := (List.getElem?_eq_some_iff.1 hj).1
  rcases h with h | ⟨b, off, e, hc⟩
  · subst h; simp at hjl
  · cases e; rw [addr_add, hc j hjl, hj]
/-- Nothing of it lies below. -/
def Far (N : Nat) (a : Option Addr) : Prop := ∀ x, a = some x → N ≤ x.block
theorem Far.mono {M N : Nat} {a : Option Addr} (h : Far N a) (hM : M ≤ N) : Far M a := fun x hx => Nat.le_trans hM (h x hx)
theorem Lies.set {w : World} {a : Option Addr} {vs : List Value} {N : Nat} {p : Addr} (h : Lies w a vs) (hf : Far N a) (hp : p.block < N) (v : Value) : Lies (w.setCell p v) a vs := by
  rcases h with h | ⟨b, off, rfl, hc⟩
  · exact .inl h
  · refine .inr ⟨b, off, rfl, fun i hi => ?_⟩
    rw [← hc i hi]
    exact World.cell?_setCell_other _ _ _ _ (by
      intro e
      have := hf _ rfl
      subst e
      exact absurd hp (by simpa using this))
/-- 'append([]T(nil), x...)'. -/
theorem wp_append_lies {ops : Array Oper} {rest : List Oper} {o : Oper} {a : Act} {Q : Exit → Act → World → Prop} (w : World) (hgd : o.guard = none) (s x : Operand) (t : TypeId)
    (ho : o.op = .call { callee := .builtin .append, args := #[s, x], argTypes := #[t, t] }) (e : TypeId) (i : TypeInfo) (z : Value) (size bytes : Nat) (ht : Try.prog.underlying t = some (.slice e)) (hi : Try.prog.info? e = some i) (hz : i.zero = some z)
    (hsize : i.size = size) (hby : i.bytes = bytes) (hzs : z.cells.size = size) (hsz : 0 < size)
    (hs : a.eval s = .slice none 0 0) (ax : Option Addr) (m c : Nat) (hx : a.eval x = .slice ax m c) (vs : List Value) (hl : vs.length = m * size) (hL : Lies w ax vs) (h1 : ∀ u ∈ vs, u.oneCell' = true) (hnil : ax = none → c = 0) (h63 : m ≤ maxLen) (hb : m * bytes ≤ 140737488355328)
    (h : ∀ a' cp w', Lies w' a' vs → Below w.heap.size w w' → (a' = none → cp = 0) → Far w.heap.size a' → wpList Try.prog ops Q rest (a.put o.dst (.slice a' m cp)) w') : wpList Try.prog ops Q (o :: rest) a w := by
  have hown : w.ownsRow w.heap.size e size (.slice none 0 0) 0 [] := ⟨by simp, .inl ⟨rfl, rfl⟩⟩
  cases ax with
  | none =>
    have hvs : vs = [] := by
      rcases hL with e' | ⟨_, _, e', _⟩
      · exact e'
      · cases e'
    subst hvs
    have hm : m = 0 := by rcases Nat.mul_eq_zero.1 (show m * size = 0 by rw [← hl]; rfl) with h | h <;> omega
    have hc0 := hnil rfl
    subst hc0 hm
    refine wpList_append_own_none hgd s x t ho w.heap.size e i size ht hi _ 0 _ hs hown hx ?_
    exact h none 0 w (.inl rfl) (Below.refl _ _) (fun _ => rfl) (fun _ hx => by cases hx)
  | some ad =>
    refine wpList_append_own w hgd s x t ho w.heap.size e i z size bytes ht hi hz hsize hby hzs hsz _ 0 [] hs hown ad m c vs hx hl hL.at h1 (by omega) (by rw [Nat.zero_add]; exact hb) (Nat.le_refl _) ?_
    intro v' w' hown' hgrow hnil'
    rw [Nat.zero_add, List.nil_append] at hown'
    have hB := grown_none hgrow
    rcases hown'.2 with ⟨h', h0⟩ | ⟨g', cap', cur, h', hfar, _, _, _⟩
    · subst h' h0
      have hvs : vs = [] := List.eq_nil_of_length_eq_zero (by rw [hl]; simp)
      subst hvs
      exact h none 0 w' (.inl rfl) hB (fun _ => rfl) (fun _ hx => by cases hx)
    · subst h'
      exact h _ cap' w' (owns_lies hown') hB (fun h => by cases h) (fun x hx => by cases hx; exact hfar)
theorem info_int : (Try.prog.info? 3).map (fun i => (i.zero, i.size, i.bytes)) = some (some (.int .i64 0), 1, 8) := by kernel_rfl
/-- What an append of one thing to a list of the call's own leaves. -/
theorem wp_append_thing {ops : Array Oper} {rest : List Oper} {o : Oper} {a : Act} {Q : Exit → Act → World → Prop} (w : World) (hgd : o.guard = none) (s x : Operand) (t : TypeId)
    (ho : o.op = .call { callee := .builtin .append, args := #[s, x], argTypes := #[t, t] }) (e : TypeId) (i : TypeInfo) (z : Value) (size bytes : Nat) (ht : Try.prog.underlying t = some (.slice e)) (hi : Try.prog.info? e = some i) (hz : i.zero = some z)
    (hsize : i.size = size) (hby : i.bytes = bytes) (hzs : z.cells.size = size) (hsz : 0 < size) (base : Nat) (v : Value) (n : Nat) (xs : List Value) (hs : a.eval s = v) (hown : w.ownsRow base e size v n xs)
    (ad : Addr) (c : Nat) (news : List Value) (hx : a.eval x = .slice (some ad) 1 c) (hl : news.length = size) (hL : Lies w (some ad) news) (h1 : ∀ u ∈ news, u.oneCell' = true) (h63 : n + 1 ≤ maxLen) (hb : (n + 1) * bytes ≤ 140737488355328) (hbase : base ≤ w.heap.size)
    (h : ∀ v' w', w'.ownsRow base e size v' (n + 1) (xs ++ news) → Below base w w' → wpList Try.prog ops Q rest (a.put o.dst v') w') : wpList Try.prog ops Q (o :: rest) a w := by
  refine wpList_append_own w hgd s x t ho base e i z size bytes ht hi hz hsize hby hzs hsz v n xs hs hown ad 1 c news hx (by rw [hl, Nat.one_mul]) hL.at h1 h63 hb hbase ?_
  intro v' w' ho' hg _
  exact h v' w' ho' ((Below.refl _ _).grown hg hbase (fun k hk => (World.ownsRow.lt hown k hk).1))
theorem row_below {w w' : World} {base e size n : Nat} {v : Value} {xs : List Value} (h : w.ownsRow base e size v n xs) (hb : Below w.heap.size w w') : w'.ownsRow base e size v n xs := by
  rcases h.2 with ⟨h', h0⟩ | ⟨g', cap', cur, h', hbg, hg, r⟩
  · exact ⟨h.1, .inl ⟨h', h0⟩⟩
  · have hlt := World.ownsRow.lt h g' (by rw [h']; rfl)
    exact ⟨h.1, .inr ⟨g', cap', cur, h', hbg, by rw [hb.block _ hlt.2]; exact hg, r⟩⟩
theorem lies_new (w : World) (vs : List Value) (t : TypeId) : Lies (w.alloc (.cells vs.toArray t)) (some ⟨w.heap.size, 0, none⟩) vs :=
  .inr ⟨_, _, rfl, fun i hi => by have h := (var_new w vs t).cell i (List.getElem?_eq_getElem hi); rw [Nat.zero_add]; rw [h]; simp [hi]⟩
theorem cells_none {α : Type} (f : α → List Value) {l : List α} (h : l.length = 0) : cellsOf f l = [] := by rw [List.eq_nil_of_length_eq_zero h]; rfl
theorem cells_more {α : Type} (f : α → List Value) (l : List α) (k : Nat) (hk : k < l.length) : cellsOf f (l.take (k + 1)) = cellsOf f (l.take k) ++ f l[k] := by
  unfold cellsOf; rw [← List.take_append_getElem hk, List.flatMap_append]; simp
end Go.Proofs.Ytmcemhkhgccojaa
/- Advertisements as plain data; what is right; their bytes. -/
namespace Go.Proofs.Ytmcemhkhgccojaa

structure LinkZ where
  kind : Int
  id : Int
  data : Int
  cost : Int
structure VertZ where
  kind : Int
  id : Int
structure HeadZ where
  age : Int
  kind : Int
  id : Int
  adv : Int
  seq : Int
  sum : Int
  len : Int
structure LsaZ where
  head : HeadZ
  flags : Int
  links : List LinkZ
  bits : Int
  routers : List Int
  verts : List VertZ
theorem LinkZ.same {a b : LinkZ} (h1 : a.kind = b.kind) (h2 : a.id = b.id) (h3 : a.data = b.data) (h4 : a.cost = b.cost) : a = b := by
  cases a; cases b; simp_all
theorem VertZ.same {a b : VertZ} (h1 : a.kind = b.kind) (h2 : a.id = b.id) : a = b := by
  cases a; cases b; simp_all
theorem HeadZ.same {a b : HeadZ} (h1 : a.age = b.age) (h2 : a.kind = b.kind) (h3 : a.id = b.id) (h4 : a.adv = b.adv) (h5 : a.seq = b.seq) (h6 : a.sum = b.sum) (h7 : a.len = b.len) : a = b := by
  cases a; cases b; simp_all
theorem LsaZ.same {a b : LsaZ} (h1 : a.head = b.head) (h2 : a.flags = b.flags) (h3 : a.links = b.links) (h4 : a.bits = b.bits) (h5 : a.routers = b.routers) (h6 : a.verts = b.verts) : a = b := by
  cases a; cases b; simp_all
def decLink : DecidableEq LinkZ := fun a b => decidable_of_iff (a.kind = b.kind ∧ a.id = b.id ∧ a.data = b.data ∧ a.cost = b.cost) ⟨fun h => LinkZ.same h.1 h.2.1 h.2.2.1 h.2.2.2, fun h => by subst h; simp⟩
def decVert : DecidableEq VertZ := fun a b => decidable_of_iff (a.kind = b.kind ∧ a.id = b.id) ⟨fun h => VertZ.same h.1 h.2, fun h => by subst h; simp⟩
def eqLinksB (x y : List LinkZ) : Bool := @decide (x = y) (@List.hasDecEq LinkZ decLink x y)
def eqVertsB (x y : List VertZ) : Bool := @decide (x = y) (@List.hasDecEq VertZ decVert x y)
theorem eqLinksB_t {x y : List LinkZ} (h : x = y) : eqLinksB x y = true := by unfold eqLinksB; exact @decide_eq_true (x = y) (@List.hasDecEq LinkZ decLink x y) h
theorem eqLinksB_f {x y : List LinkZ} (h : ¬ x = y) : eqLinksB x y = false := by unfold eqLinksB; exact @decide_eq_false (x = y) (@List.hasDecEq LinkZ decLink x y) h
theorem eqLinksB_of {x y : List LinkZ} (h : eqLinksB x y = true) : x = y := by unfold eqLinksB at h; exact @of_decide_eq_true (x = y) (@List.hasDecEq LinkZ decLink x y) h
theorem eqVertsB_t {x y : List VertZ} (h : x = y) : eqVertsB x y = true := by unfold eqVertsB; exact @decide_eq_true (x = y) (@List.hasDecEq VertZ decVert x y) h
theorem eqVertsB_f {x y : List VertZ} (h : ¬ x = y) : eqVertsB x y = false := by unfold eqVertsB; exact @decide_eq_false (x = y) (@List.hasDecEq VertZ decVert x y) h
theorem eqVertsB_of {x y : List VertZ} (h : eqVertsB x y = true) : x = y := by unfold eqVertsB at h; exact @of_decide_eq_true (x = y) (@List.hasDecEq VertZ decVert x y) h

def amongB (n lo hi : Int) : Bool := decide (lo ≤ n) && decide (n ≤ hi)
def rightHeadB (h : HeadZ) : Bool := amongB h.age 0 3600 && rightI h.id && rightI h.adv && (h.adv != 0) && amongB h.seq (-2147483647) 2147483647
def rightLinkB (k : LinkZ) : Bool := amongB k.kind 1 3 && rightI k.id && rightI k.data && amongB k.cost 0 65535
def rightVertB (v : VertZ) : Bool := amongB v.kind 1 2 && rightI v.id
def rightListB {α : Type} (f : α → Bool) (l : List α) : Bool := decide (l.length ≤ 64) && l.all f
def noRouterB (l : LsaZ) : Bool := (l.flags == 0) && ((l.links.length : Int) == 0)
def noNetworkB (l : LsaZ) : Bool := (l.bits == 0) && ((l.routers.length : Int) == 0)
def noGroupB (l : LsaZ) : Bool := (l.verts.length : Int) == 0
def rightRouterB (l : LsaZ) : Bool := amongB l.flags 0 255 && rightListB rightLinkB l.links
def rightNetworkB (l : LsaZ) : Bool := amongB l.bits 0 32 && rightListB rightI l.routers
def rightGroupB (l : LsaZ) : Bool := rightListB rightVertB l.verts
def greatB (l : LsaZ) : Bool := decide (70 < (l.links.length : Int)) || decide (70 < (l.routers.length : Int)) || decide (70 < (l.verts.length : Int))
def rightBodyB (l : LsaZ) : Bool :=
  if l.head.kind = 1 then rightRouterB l && noNetworkB l && noGroupB l
  else if l.head.kind = 2 then noRouterB l && rightNetworkB l && noGroupB l
  else if l.head.kind = 6 then noRouterB l && noNetworkB l && rightGroupB l else false
def rightLsaB (l : LsaZ) : Bool := rightHeadB l.head && rightBodyB l
end Go.Proofs.Ytmcemhkhgccojaa
/- What is right: the calls that ask one number, one link, one vertex, one head. -/
namespace Go.Proofs.Ytmcemhkhgccojaa
open Go.RowKit

def kindsZ (a : Int) : Int := if a / 268435456 = 14 then 3 else if 0 ≤ a / 268435456 ∧ a / 268435456 ≤ 15 then 1 else 0
theorem or_0_2_1 : bits .or .i64 (bits .or .i64 0 2) 1 = 3 := by decide +kernel
theorem or_0_1 : bits .or .i64 0 1 = 1 := by decide +kernel
set_option maxHeartbeats 400000 in
theorem kinds_any (a : Int) (w : World) :
    Calls Try.prog 82 #[.int .i64 a] w fun e w' => e = .returned (.int .i64 (kindsZ a)) ∧ w' = w := by
  go_enter Try.func82, Try.ntmps82
  go_wp2
  · go_ret; exact ⟨ret_int (by rw [or_0_2_1, kindsZ, if_pos (by simpa using ‹(a / 268435456 == 14) = true›)]), rfl⟩
  all_goals have hne : ¬ a / 268435456 = 14 := by simpa using ‹(a / 268435456 == 14) = false›
  · go_ret; exact ⟨ret_int (by rw [or_0_1, kindsZ, if_neg hne, if_pos ⟨by assumption, by assumption⟩]), rfl⟩
  · go_ret; exact ⟨ret_int (by rw [kindsZ, if_neg hne, if_neg (by omega)]), rfl⟩
  · go_ret; exact ⟨ret_int (by rw [kindsZ, if_neg hne, if_neg (by omega)]), rfl⟩
theorem and_3_1 : bits .and .i64 3 1 = 1 := by decide +kernel
theorem and_1_1 : bits .and .i64 1 1 = 1 := by decide +kernel
theorem and_0_1 : bits .and .i64 0 1 = 0 := by decide +kernel
theorem kindsZ_right (a : Int) : (bits .and .i64 (kindsZ a) 1 != 0) = rightI a := by
  unfold kindsZ rightI
  by_cases h1 : a / 268435456 = 14
  · rw [if_pos h1, and_3_1]; rw [show decide (0 ≤ a ∧ a ≤ 4294967295) = true by simp; omega]; rfl
  · rw [if_neg h1]
    by_cases h2 : 0 ≤ a / 268435456 ∧ a / 268435456 ≤ 15
    · rw [if_pos h2, and_1_1]; rw [show decide (0 ≤ a ∧ a ≤ 4294967295) = true by simp; omega]; rfl
    · rw [if_neg h2, and_0_1]; rw [show decide (0 ≤ a ∧ a ≤ 4294967295) = false by simp; omega]; rfl
set_option maxHeartbeats 400000 in
theorem right_any (a : Int) (w : World) :
    Calls Try.prog 72 #[.int .i64 a] w fun e w' => e = .returned (.bool (rightI a)) ∧ w' = w := by
  go_enter Try.func72, Try.ntmps72
  go_wp2_with fail
  refine (kinds_any a w).mono ?_
  rintro e w' ⟨rfl, rfl⟩
  go_wp2
  go_ret
  exact ⟨ret_bool (kindsZ_right a), rfl⟩
theorem amongB_hi {n lo hi : Int} (h : lo ≤ n) : amongB n lo hi = decide (n ≤ hi) := by unfold amongB; simp [h]
theorem amongB_lo {n lo hi : Int} (h : ¬ lo ≤ n) : amongB n lo hi = false := by unfold amongB; simp [h]
theorem among_any (n lo hi : Int) (w : World) :
    Calls Try.prog 71 #[.int .i64 n, .int .i64 lo, .int .i64 hi] w fun e w' => e = .returned (.bool (amongB n lo hi)) ∧ w' = w := by
  by_cases h : lo ≤ n
  · have HA : Hid (amongB n lo hi = decide (n ≤ hi)) := amongB_hi h
    go_enter Try.func71, Try.ntmps71
    go_wp2
    go_ret
    exact ⟨ret_bool HA.out.symm, rfl⟩
  · have HA : Hid (amongB n lo hi = false) := amongB_lo h
    go_enter Try.func71, Try.ntmps71
    go_wp2
    go_ret
    exact ⟨ret_bool HA.out.symm, rfl⟩
set_option maxHeartbeats 800000 in
theorem rightLink_any (k : LinkZ) (w : World) :
    Calls Try.prog 84 #[.agg #[.int .i64 k.kind, .int .i64 k.id, .int .i64 k.data, .int .i64 k.cost]] w fun e w' => e = .returned (.bool (rightLinkB k)) ∧ Below w.heap.size w w' := by
  have HB : Hid (Below w.heap.size w (w.alloc (.cells #[.int .i64 k.kind, .int .i64 k.id, .int .i64 k.data, .int .i64 k.cost] 93))) := below_new' _ _
  have HE : Hid (rightLinkB k = (amongB k.kind 1 3 && rightI k.id && rightI k.data && amongB k.cost 0 65535)) := rfl
  generalize rightLinkB k = R at *
  go_enter Try.func84, Try.ntmps84
  go_wp2_with (first | (go_at_call 71; refine (among_any _ _ _ _).mono ?_; rintro e w' ⟨rfl, rfl⟩) | (go_at_call 72; refine (right_any _ _).mono ?_; rintro e w' ⟨rfl, rfl⟩))
  all_goals go_ret
  all_goals exact ⟨ret_bool (by rw [HE.out]; simp [*]), HB.out⟩
set_option maxHeartbeats 800000 in
theorem rightVert_any (k : VertZ) (w : World) :
    Calls Try.prog 87 #[.agg #[.int .i64 k.kind, .int .i64 k.id]] w fun e w' => e = .returned (.bool (rightVertB k)) ∧ Below w.heap.size w w' := by
  have HB : Hid (Below w.heap.size w (w.alloc (.cells #[.int .i64 k.kind, .int .i64 k.id] 64))) := below_new' _ _
  have HE : Hid (rightVertB k = (amongB k.kind 1 2 && rightI k.id)) := rfl
  generalize rightVertB k = R at *
  go_enter Try.func87, Try.ntmps87
  go_wp2_with (first | (go_at_call 71; refine (among_any _ _ _ _).mono ?_; rintro e w' ⟨rfl, rfl⟩) | (go_at_call 72; refine (right_any _ _).mono ?_; rintro e w' ⟨rfl, rfl⟩))
  all_goals go_ret
  all_goals exact ⟨ret_bool (by rw [HE.out]; simp [*]), HB.out⟩
set_option maxHeartbeats 800000 in
theorem rightHead_any (h : HeadZ) (w : World) :
    Calls Try.prog 64 #[.agg #[.int .i64 h.age, .int .i64 h.kind, .int .i64 h.id, .int .i64 h.adv, .int .i64 h.seq, .int .i64 h.sum, .int .i64 h.len]] w fun e w' => e = .returned (.bool (rightHeadB h)) ∧ Below w.heap.size w w' := by
  have HE : Hid (rightHeadB h = (amongB h.age 0 3600 && rightI h.id && rightI h.adv && (h.adv != 0) && amongB h.seq (-2147483647) 2147483647)) := rfl
  generalize rightHeadB h = R at *
  go_enter Try.func64, Try.ntmps64
  go_wp2_with (first | (go_at_call 71; refine (among_any _ _ _ _).mono ?_; rintro e w' ⟨rfl, rfl⟩) | (go_at_call 72; refine (right_any _ _).mono ?_; rintro e w' ⟨rfl, rfl⟩))
  all_goals go_ret
  all_goals exact ⟨ret_bool (by rw [HE.out]; simp [*]), below_new' _ _⟩
end Go.Proofs.Ytmcemhkhgccojaa
/- Rows of structs that lie somewhere; the lists of an advertisement, asked one by one. -/
namespace Go.Proofs.Ytmcemhkhgccojaa
open Go.RowKit

def linkC (k : LinkZ) : List Value := [.int .i64 k.kind, .int .i64 k.id, .int .i64 k.data, .int .i64 k.cost]
def vertC (k : VertZ) : List Value := [.int .i64 k.kind, .int .i64 k.id]
theorem Links.cells {w : World} {a : Option Addr} {l : List LinkZ} (h : Lies w a (cellsOf linkC l)) (i : Nat) (hi : i < l.length) :
    ∃ b off, a = some ⟨b, off, none⟩ ∧ w.cell? ⟨b, off + i * 4, none⟩ = some (.int .i64 l[i].kind) ∧ w.cell? ⟨b, off + i * 4 + 1, none⟩ = some (.int .i64 l[i].id) ∧ w.cell? ⟨b, off + i * 4 + 2, none⟩ = some (.int .i64 l[i].data) ∧ w.cell? ⟨b, off + i * 4 + 3, none⟩ = some (.int .i64 l[i].cost) := by
  obtain ⟨b, off, rfl, hc⟩ := h.cell linkC 4 (fun _ => rfl) (by rintro rfl; simp at hi) (by omega)
  exact ⟨b, off, rfl, hc i 0 hi (by omega), hc i 1 hi (by omega), hc i 2 hi (by omega), hc i 3 hi (by omega)⟩
theorem Verts.cells {w : World} {a : Option Addr} {l : List VertZ} (h : Lies w a (cellsOf vertC l)) (i : Nat) (hi : i < l.length) :
    ∃ b off, a = some ⟨b, off, none⟩ ∧ w.cell? ⟨b, off + i * 2, none⟩ = some (.int .i64 l[i].kind) ∧ w.cell? ⟨b, off + i * 2 + 1, none⟩ = some (.int .i64 l[i].id) := by
  obtain ⟨b, off, rfl, hc⟩ := h.cell vertC 2 (fun _ => rfl) (by rintro rfl; simp at hi) (by omega)
  exact ⟨b, off, rfl, hc i 0 hi (by omega), hc i 1 hi (by omega)⟩
theorem all_take_succ {α : Type} (f : α → Bool) (l : List α) (k : Nat) (hk : k < l.length) : (l.take (k + 1)).all f = ((l.take k).all f && f l[k]) := by
  rw [← List.take_append_getElem hk, List.all_append]; simp
theorem rightListB_long {α : Type} (f : α → Bool) (l : List α) (h : 64 < l.length) : rightListB f l = false := by unfold rightListB; simp; omega
theorem rightListB_all {α : Type} (f : α → Bool) (l : List α) (h : ¬ 64 < l.length) : rightListB f l = l.all f := by unfold rightListB; rw [decide_eq_true (by omega)]; simp
theorem rightListB_not {α : Type} (f : α → Bool) (l : List α) (h : ¬ 64 < l.length) (k : Nat) (hk : k < l.length) (hf : f l[k] = false) : rightListB f l = false := by
  rw [rightListB_all f l h, List.all_eq_false]; exact ⟨_, List.getElem_mem hk, by simp [hf]⟩
theorem rightListB_end {α : Type} (f : α → Bool) (l : List α) (h : ¬ 64 < l.length) (k : Nat) (hk : ¬ k < l.length) (hf : (l.take k).all f = true) : rightListB f l = true := by
  rw [rightListB_all f l h]; rwa [List.take_of_length_le (by omega)] at hf

set_option maxHeartbeats 800000 in
theorem rightLinks_any (a : Option Addr) (n cap : Nat) (l : List LinkZ) (w : World) (hn : n = l.length) (hL : Lies w a (cellsOf linkC l)) (hl : l.length ≤ 140737488355328) :
    Calls Try.prog 83 #[.slice a n cap, .func (.func 84) #[] #[]] w fun e w' => e = .returned (.bool (rightListB rightLinkB l)) ∧ Below w.heap.size w w' := by
  subst hn
  by_cases h64 : 64 < l.length
  · have HR : Hid (_ = _) := rightListB_long rightLinkB l h64
    clear hL
    go_enter Try.func83, Try.ntmps83
    go_wp2
    go_ret
    exact ⟨ret_bool HR.out.symm, Below.refl _ _⟩
  · have HN : Hid (¬ 64 < l.length) := h64
    go_enter Try.func83, Try.ntmps83
    go_wp2
    go_loopw [12] (fun t wr => ∃ k : Nat, k ≤ l.length ∧ t = .int .i64 k ∧ Hid ((l.take k).all rightLinkB = true) ∧ Hid (Below w.heap.size w wr)) (fun t _ => l.length - (intOf t).toNat)
    case atStart => exact ⟨0, by omega, rfl, by show _ = _; simp, Below.refl _ _⟩
    case round =>
      obtain ⟨k, hk, rfl, H, HB⟩ := hrel
      by_cases hlt : k < l.length
      · obtain ⟨b, off, rfl, c0, c1, c2, c3⟩ := Links.cells (hL.below HB.out) k hlt
        go_wp2_with fail
        refine (rightLink_any l[k] _).mono ?_
        rintro e w2 ⟨rfl, hb2⟩
        have HB2 : Hid (Below w.heap.size w w2) := below_more (HB.out.alloc HB.out.size _) hb2 (by have := HB.out.size; simp; omega)
        clear hb2
        cases hb : rightLinkB l[k] with
        | false =>
          go_wp2
          go_ret
          exact ⟨ret_bool (rightListB_not rightLinkB l HN.out k hlt hb).symm, HB2.out⟩
        | true =>
          go_wp2
          go_roundw
          case rel => exact ⟨k + 1, by omega, by go_num, by show _ = _; rw [all_take_succ rightLinkB l k hlt, H.out, hb]; rfl, HB2.out⟩
          case measure => simp [intOf]; omega
      · clear hL
        go_wp2
        go_ret
        exact ⟨ret_bool (rightListB_end rightLinkB l HN.out k hlt H.out).symm, HB.out⟩

set_option maxHeartbeats 800000 in
theorem rightVerts_any (a : Option Addr) (n cap : Nat) (l : List VertZ) (w : World) (hn : n = l.length) (hL : Lies w a (cellsOf vertC l)) (hl : l.length ≤ 140737488355328) :
    Calls Try.prog 86 #[.slice a n cap, .func (.func 87) #[] #[]] w fun e w' => e = .returned (.bool (rightListB rightVertB l)) ∧ Below w.heap.size w w' := by
  subst hn
  by_cases h64 : 64 < l.length
  · have HR : Hid (_ = _) := rightListB_long rightVertB l h64
    clear hL
    go_enter Try.func86, Try.ntmps86
    go_wp2
    go_ret
    exact ⟨ret_bool HR.out.symm, Below.refl _ _⟩
  · have HN : Hid (¬ 64 < l.length) := h64
    go_enter Try.func86, Try.ntmps86
    go_wp2
    go_loopw [12] (fun t wr => ∃ k : Nat, k ≤ l.length ∧ t = .int .i64 k ∧ Hid ((l.take k).all rightVertB = true) ∧ Hid (Below w.heap.size w wr)) (fun t _ => l.length - (intOf t).toNat)
    case atStart => exact ⟨0, by omega, rfl, by show _ = _; simp, Below.refl _ _⟩
    case round =>
      obtain ⟨k, hk, rfl, H, HB⟩ := hrel
      by_cases hlt : k < l.length
      · obtain ⟨b, off, rfl, c0, c1⟩ := Verts.cells (hL.below HB.out) k hlt
        go_wp2_with fail
        refine (rightVert_any l[k] _).mono ?_
        rintro e w2 ⟨rfl, hb2⟩
        have HB2 : Hid (Below w.heap.size w w2) := below_more (HB.out.alloc HB.out.size _) hb2 (by have := HB.out.size; simp; omega)
        clear hb2
        cases hb : rightVertB l[k] with
        | false =>
          go_wp2
          go_ret
          exact ⟨ret_bool (rightListB_not rightVertB l HN.out k hlt hb).symm, HB2.out⟩
        | true =>
          go_wp2
          go_roundw
          case rel => exact ⟨k + 1, by omega, by go_num, by show _ = _; rw [all_take_succ rightVertB l k hlt, H.out, hb]; rfl, HB2.out⟩
          case measure => simp [intOf]; omega
      · clear hL
        go_wp2
        go_ret
        exact ⟨ret_bool (rightListB_end rightVertB l HN.out k hlt H.out).symm, HB.out⟩

set_option maxHeartbeats 800000 in
theorem rightInts_any (a : Option Addr) (n cap : Nat) (l : List Int) (w : World) (hn : n = l.length) (hL : Lies w a (cellsOf intC l)) (hl : l.length ≤ 140737488355328) :
    Calls Try.prog 85 #[.slice a n cap, .func (.func 72) #[] #[]] w fun e w' => e = .returned (.bool (rightListB rightI l)) ∧ Below w.heap.size w w' := by
  subst hn
  by_cases h64 : 64 < l.length
  · have HR : Hid (_ = _) := rightListB_long rightI l h64
    clear hL
    go_enter Try.func85, Try.ntmps85
    go_wp2
    go_ret
    exact ⟨ret_bool HR.out.symm, Below.refl _ _⟩
  · have HN : Hid (¬ 64 < l.length) := h64
    go_enter Try.func85, Try.ntmps85
    go_wp2
    go_loopw [12] (fun t wr => ∃ k : Nat, k ≤ l.length ∧ t = .int .i64 k ∧ Hid ((l.take k).all rightI = true) ∧ Hid (Below w.heap.size w wr)) (fun t _ => l.length - (intOf t).toNat)
    case atStart => exact ⟨0, by omega, rfl, by show _ = _; simp, Below.refl _ _⟩
    case round =>
      obtain ⟨k, hk, rfl, H, HB⟩ := hrel
      by_cases hlt : k < l.length
      · obtain ⟨b, off, rfl, c0⟩ := Ints.cells (hL.below HB.out) k hlt
        go_wp2_with fail
        refine (right_any l[k] _).mono ?_
        rintro e w2 ⟨rfl, rfl⟩
        have HB2 := HB
        cases hb : rightI l[k] with
        | false =>
          go_wp2
          go_ret
          exact ⟨ret_bool (rightListB_not rightI l HN.out k hlt hb).symm, HB2.out⟩
        | true =>
          go_wp2
          go_roundw
          case rel => exact ⟨k + 1, by omega, by go_num, by show _ = _; rw [all_take_succ rightI l k hlt, H.out, hb]; rfl, HB2.out⟩
          case measure => simp [intOf]; omega
      · clear hL
        go_wp2
        go_ret
        exact ⟨ret_bool (rightListB_end rightI l HN.out k hlt H.out).symm, HB.out⟩
end Go.Proofs.Ytmcemhkhgccojaa
