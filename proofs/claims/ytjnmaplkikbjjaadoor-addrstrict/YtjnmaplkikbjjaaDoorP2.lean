/- Plain facts on addresses' texts: how they are cut at the points, read and joined again. -/
import Derived.Test.YtjnmaplkikbjjaaDoorW5
namespace Go.Proofs.YtjnmaplkikbjjaaDoor
open Go Go.RowKit Go.Lib

/-- A byte's numeral, written out. -/
def d3 (n : Nat) : List UInt8 := if n < 10 then [UInt8.ofNat (48 + n)] else if n < 100 then [UInt8.ofNat (48 + n / 10), UInt8.ofNat (48 + n % 10)] else [UInt8.ofNat (48 + n / 100), UInt8.ofNat (48 + n / 10 % 10), UInt8.ofNat (48 + n % 10)]
theorem dec_d3 (n : Nat) (h : n < 1000) : decDigits n = d3 n := by
  unfold d3
  by_cases a : n < 10
  · rw [if_pos a, decDigits_one a]
  · rw [if_neg a]
    by_cases b : n < 100
    · rw [if_pos b, decDigits_two a b]
    · rw [if_neg b, decDigits, dif_neg a, decDigits_two (by omega) (by omega), show n / 10 / 10 = n / 100 by omega]; rfl
theorem d3_fin : ∀ n : Fin 256, atoi (d3 n.val) = some (n.val : Int) ∧ (46 : UInt8) ∉ d3 n.val := by decide +kernel
theorem d3_atoi (n : Nat) (h : n < 256) : atoi (d3 n) = some (n : Int) := (d3_fin ⟨n, h⟩).1
theorem d3_point (n : Nat) (h : n < 256) : (46 : UInt8) ∉ d3 n := (d3_fin ⟨n, h⟩).2

theorem index_point : ∀ (x r : List UInt8), (46 : UInt8) ∉ x → index (x ++ 46 :: r) [46] = x.length
  | [], r, _ => by simp [index]
  | b :: x, r, h => by
    have hb : b ≠ 46 := fun e => h (by simp [e])
    have ih := index_point x r (fun m => h (List.mem_cons_of_mem _ m))
    rw [List.cons_append, index, ih]
    have hp : ([46] : List UInt8).isPrefixOf (b :: (x ++ 46 :: r)) = false := by
      simp [List.isPrefixOf]; exact fun e => hb e.symm
    rw [if_neg (by simp [hp]), if_neg (by simp)]
    simp
theorem index_none : ∀ (x : List UInt8), (46 : UInt8) ∉ x → index x [46] = -1
  | [], _ => rfl
  | b :: x, h => by
    have hb : b ≠ 46 := fun e => h (by simp [e])
    have ih := index_none x (fun m => h (List.mem_cons_of_mem _ m))
    rw [index, ih]
    have hp : ([46] : List UInt8).isPrefixOf (b :: x) = false := by
      simp [List.isPrefixOf]; exact fun e => hb e.symm
    rw [if_neg (by simp [hp])]; rfl
theorem splitK_point (x r : List UInt8) (k : Nat) (h : (46 : UInt8) ∉ x) : splitK [46] 0 (k + 1) (x ++ 46 :: r) = x :: splitK [46] 0 k r := by
  have e := index_point x r h
  rw [splitK, e, if_neg (by simp)]
  have h1 : ((x.length : Int)).toNat = x.length := by omega
  rw [h1]
  simp
theorem splitK_last (x : List UInt8) (k : Nat) (h : (46 : UInt8) ∉ x) : splitK [46] 0 k x = [x] := by
  cases k with
  | zero => rfl
  | succ k => rw [splitK, index_none x h]; rfl
theorem count_point (x r : List UInt8) (h : (46 : UInt8) ∉ x) : count (x ++ 46 :: r) [46] = count r [46] + 1 := by
  rw [count_one, count_one, List.count_append, List.count_cons_self, List.count_eq_zero_of_not_mem h]; omega
theorem count_last (x : List UInt8) (h : (46 : UInt8) ∉ x) : count x [46] = 0 := by
  rw [count_one, List.count_eq_zero_of_not_mem h]

/-- A byte of an address. -/
def byN (a : Int) (j : Nat) : Nat := (byt a j).toNat
theorem byN_lt (a : Int) (j : Nat) : byN a j < 256 := by have := byt_bd a j; unfold byN; omega
theorem textL_d3 (a : Int) : textL a = d3 (byN a 0) ++ 46 :: (d3 (byN a 1) ++ 46 :: (d3 (byN a 2) ++ 46 :: d3 (byN a 3))) := by
  rw [← dec_d3 _ (Nat.lt_trans (byN_lt a 0) (by omega)), ← dec_d3 _ (Nat.lt_trans (byN_lt a 1) (by omega)), ← dec_d3 _ (Nat.lt_trans (byN_lt a 2) (by omega)), ← dec_d3 _ (Nat.lt_trans (byN_lt a 3) (by omega)), textL_eq]
  simp [byN, byt]
theorem split_text (a : Int) : split (textL a) [46] = [d3 (byN a 0), d3 (byN a 1), d3 (byN a 2), d3 (byN a 3)] := by
  have h0 := d3_point _ (byN_lt a 0)
  have h1 := d3_point _ (byN_lt a 1)
  have h2 := d3_point _ (byN_lt a 2)
  have h3 := d3_point _ (byN_lt a 3)
  rw [textL_d3, split, count_point _ _ h0, splitK_point _ _ _ h0, count_point _ _ h1, splitK_point _ _ _ h1, count_point _ _ h2, splitK_point _ _ _ h2, splitK_last _ _ h3]

/-- The parts read one by one, the number that they make; none: one is no number. -/
def foldR : List (List UInt8) → Int → Option Int
  | [], a => some a
  | p :: r, a => match atoi p with
    | some n => foldR r (bits .or .i64 (wrap64 (a * 256)) n)
    | none => none
theorem or_byte (a n : Int) (h0 : 0 ≤ a) (h1 : a < 16777216) (n0 : 0 ≤ n) (n1 : n < 256) : bits .or .i64 (wrap64 (a * 256)) n = a * 256 + n := by
  have e : wrap64 (a * 256) = a * 256 := by unfold wrap64; omega
  rw [e]
  exact bits_join .i64 62 (by decide) (fun m h0 h1 => by rw [IntKind.wrap_i64]; omega) 8 (a * 256) n (by omega) (by omega) (by omega) n0 (by omega) (by omega)
/-- The number of four bytes. -/
def quad (a : Int) : Int := (((byN a 0 : Int) * 256 + byN a 1) * 256 + byN a 2) * 256 + byN a 3
theorem quad_eq (a : Int) : quad a = a % 4294967296 := by
  have e0 : (byN a 0 : Int) = a / 16777216 % 256 := by have := byt_bd a 0; unfold byN; rw [Int.toNat_of_nonneg this.1]; simp [byt]
  have e1 : (byN a 1 : Int) = a / 65536 % 256 := by have := byt_bd a 1; unfold byN; rw [Int.toNat_of_nonneg this.1]; simp [byt]
  have e2 : (byN a 2 : Int) = a / 256 % 256 := by have := byt_bd a 2; unfold byN; rw [Int.toNat_of_nonneg this.1]; simp [byt]
  have e3 : (byN a 3 : Int) = a % 256 := by have := byt_bd a 3; unfold byN; rw [Int.toNat_of_nonneg this.1]; simp [byt]
  unfold quad
  rw [e0, e1, e2, e3]
  omega
theorem fold_text (a : Int) : foldR (split (textL a) [46]) 0 = some (a % 4294967296) := by
  have h0 := byN_lt a 0
  have h1 := byN_lt a 1
  have h2 := byN_lt a 2
  have h3 := byN_lt a 3
  rw [split_text, ← quad_eq]
  simp only [foldR, d3_atoi _ h0, d3_atoi _ h1, d3_atoi _ h2, d3_atoi _ h3]
  have e0 := or_byte 0 (byN a 0) (by omega) (by omega) (by omega) (by omega)
  have e1 := or_byte (0 * 256 + byN a 0) (byN a 1) (by omega) (by omega) (by omega) (by omega)
  have e2 := or_byte ((0 * 256 + byN a 0) * 256 + byN a 1) (byN a 2) (by omega) (by omega) (by omega) (by omega)
  have e3 := or_byte (((0 * 256 + byN a 0) * 256 + byN a 1) * 256 + byN a 2) (byN a 3) (by omega) (by omega) (by omega) (by omega)
  rw [e0, e1, e2, e3]
  simp [quad]
theorem text_low (a : Int) : textL (a % 4294967296) = textL a := by
  have e : ∀ j, j < 4 → byt (a % 4294967296) j = byt a j := by
    intro j hj
    have h4 : j = 0 ∨ j = 1 ∨ j = 2 ∨ j = 3 := by omega
    rcases h4 with rfl | rfl | rfl | rfl <;> simp [byt] <;> omega
  rw [textL_d3, textL_d3]
  simp only [byN, e 0 (by omega), e 1 (by omega), e 2 (by omega), e 3 (by omega)]
theorem text_inj (a b : Int) (ha : 0 ≤ a ∧ a ≤ 4294967295) (hb : 0 ≤ b ∧ b ≤ 4294967295) (h : textL a = textL b) : a = b := by
  have e := fold_text a
  rw [h, fold_text b] at e
  have := Option.some.inj e
  omega

/-- What Read tells of a text: the address whose text it is, or that there is none. -/
def ReadIs (s : List UInt8) (x y : Int) : Prop := (y = 0 ∧ (0 ≤ x ∧ x ≤ 4294967295) ∧ textL x = s) ∨ (x = 0 ∧ y = 3 ∧ ∀ a, textL a ≠ s)
theorem ReadIs.same {s : List UInt8} {x y x' y' : Int} (h : ReadIs s x y) (h' : ReadIs s x' y') : x = x' ∧ y = y' := by
  rcases h with ⟨rfl, hx, e⟩ | ⟨rfl, rfl, e⟩
  · rcases h' with ⟨rfl, hx', e'⟩ | ⟨rfl, rfl, e'⟩
    · exact ⟨text_inj _ _ hx hx' (e.trans e'.symm), rfl⟩
    · exact absurd e (e' _)
  · rcases h' with ⟨rfl, hx', e'⟩ | ⟨rfl, rfl, e'⟩
    · exact absurd e' (e _)
    · exact ⟨rfl, rfl⟩
theorem readIs_long (s : List UInt8) (h : 15 < s.length) : ReadIs s 0 3 := Or.inr ⟨rfl, rfl, fun a e => by have := textL_len a; rw [e] at this; omega⟩
theorem readIs_none (s : List UInt8) (h : foldR (split s [46]) 0 = none) : ReadIs s 0 3 := Or.inr ⟨rfl, rfl, fun a e => by rw [← e, fold_text] at h; cases h⟩
theorem readIs_other (s : List UInt8) (x : Int) (h : foldR (split s [46]) 0 = some x) (hx : textL x ≠ s) : ReadIs s 0 3 := Or.inr ⟨rfl, rfl, fun a e => by
  rw [← e, fold_text] at h
  have h1 := Option.some.inj h
  apply hx
  rw [← h1, text_low, e]⟩
theorem readIs_some (s : List UInt8) (x : Int) (h : foldR (split s [46]) 0 = some x) (hx : textL x = s) : ReadIs s x 0 := Or.inl ⟨rfl, by
  rw [← hx, fold_text] at h
  have h1 := Option.some.inj h
  omega, hx⟩
end Go.Proofs.YtjnmaplkikbjjaaDoor
