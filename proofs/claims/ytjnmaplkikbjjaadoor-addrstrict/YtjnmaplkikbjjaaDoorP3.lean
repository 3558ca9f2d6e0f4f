/- Plain facts: texts that are no address's. -/
import Derived.Test.YtjnmaplkikbjjaaDoorW9
namespace Go.Proofs.YtjnmaplkikbjjaaDoor
open Go Go.RowKit Go.Lib

theorem d3_bytes_fin : ∀ n : Fin 256, (∀ x ∈ d3 n.val, 48 ≤ x.toNat ∧ x.toNat ≤ 57) ∧ d3 n.val ≠ [] ∧ d3 n.val ≠ [50, 53, 54] ∧ ((d3 n.val).head? = some 48 → (d3 n.val).length = 1) := by decide +kernel
theorem d3_bytes (n : Nat) (h : n < 256) : ∀ x ∈ d3 n, 48 ≤ x.toNat ∧ x.toNat ≤ 57 := (d3_bytes_fin ⟨n, h⟩).1
theorem d3_some (n : Nat) (h : n < 256) : d3 n ≠ [] := (d3_bytes_fin ⟨n, h⟩).2.1
theorem d3_256 (n : Nat) (h : n < 256) : d3 n ≠ [50, 53, 54] := (d3_bytes_fin ⟨n, h⟩).2.2.1
theorem d3_nought (n : Nat) (h : n < 256) (e : (d3 n).head? = some 48) : (d3 n).length = 1 := (d3_bytes_fin ⟨n, h⟩).2.2.2 e
theorem text_count (a : Int) : (textL a).count 46 = 3 := by
  rw [textL_d3, List.count_append, List.count_cons_self, List.count_append, List.count_cons_self, List.count_append, List.count_cons_self, List.count_eq_zero_of_not_mem (d3_point _ (byN_lt a 0)), List.count_eq_zero_of_not_mem (d3_point _ (byN_lt a 1)), List.count_eq_zero_of_not_mem (d3_point _ (byN_lt a 2)), List.count_eq_zero_of_not_mem (d3_point _ (byN_lt a 3))]
theorem text_bytes (a : Int) : ∀ x ∈ textL a, x = 46 ∨ (48 ≤ x.toNat ∧ x.toNat ≤ 57) := by
  rw [textL_d3]
  intro x hx
  simp only [List.mem_append, List.mem_cons] at hx
  rcases hx with h | h | h | h | h | h | h
  · exact Or.inr (d3_bytes _ (byN_lt a 0) x h)
  · exact Or.inl h
  · exact Or.inr (d3_bytes _ (byN_lt a 1) x h)
  · exact Or.inl h
  · exact Or.inr (d3_bytes _ (byN_lt a 2) x h)
  · exact Or.inl h
  · exact Or.inr (d3_bytes _ (byN_lt a 3) x h)
theorem text_long (a : Int) : 7 ≤ (textL a).length := by
  have h0 := List.length_pos_iff.2 (d3_some _ (byN_lt a 0))
  have h1 := List.length_pos_iff.2 (d3_some _ (byN_lt a 1))
  have h2 := List.length_pos_iff.2 (d3_some _ (byN_lt a 2))
  have h3 := List.length_pos_iff.2 (d3_some _ (byN_lt a 3))
  rw [textL_d3]
  simp only [List.length_append, List.length_cons]
  omega
theorem point_inj : ∀ (x y r r' : List UInt8), (46 : UInt8) ∉ x → (46 : UInt8) ∉ y → x ++ 46 :: r = y ++ 46 :: r' → x = y
  | [], [], _, _, _, _, _ => rfl
  | [], b :: y, r, r', _, hy, e => by
    simp only [List.nil_append, List.cons_append, List.cons.injEq] at e
    exact absurd e.1 (fun h => hy (by simp [h]))
  | b :: x, [], r, r', hx, _, e => by
    simp only [List.nil_append, List.cons_append, List.cons.injEq] at e
    exact absurd e.1.symm (fun h => hx (by simp [h]))
  | b :: x, c :: y, r, r', hx, hy, e => by
    simp only [List.cons_append, List.cons.injEq] at e
    rw [e.1, point_inj x y r r' (fun h => hx (List.mem_cons_of_mem _ h)) (fun h => hy (List.mem_cons_of_mem _ h)) e.2]
theorem readIs_no {s : List UInt8} (h : ∀ a, textL a ≠ s) {x y : Int} (hr : ReadIs s x y) : x = 0 ∧ y = 3 := hr.same (Or.inr ⟨rfl, rfl, h⟩)

theorem no_0 (t : Int) : ∀ a, textL a ≠ 48 :: textL t := fun a e => by
  rw [textL_d3, textL_d3 t] at e
  have h := point_inj (d3 (byN a 0)) (48 :: d3 (byN t 0)) _ (d3 (byN t 1) ++ 46 :: (d3 (byN t 2) ++ 46 :: d3 (byN t 3))) (d3_point _ (byN_lt a 0)) (by
    intro m
    rcases List.mem_cons.1 m with m | m
    · cases m
    · exact d3_point _ (byN_lt t 0) m) e
  have h1 := d3_nought _ (byN_lt a 0) (by rw [h]; rfl)
  rw [h] at h1
  have h0 := List.length_pos_iff.2 (d3_some _ (byN_lt t 0))
  simp only [List.length_cons] at h1
  omega
theorem no_count (s : List UInt8) (h : s.count 46 ≠ 3) : ∀ a, textL a ≠ s := fun a e => by
  apply h; rw [← e]; exact text_count a
theorem no_1 (t : Int) : ∀ a, textL a ≠ textL t ++ [46] := no_count _ (by rw [List.count_append, text_count]; decide)
theorem no_2 (t : Int) : ∀ a, textL a ≠ textL t ++ [46, 49] := no_count _ (by rw [List.count_append, text_count]; decide)
theorem no_3 (t : Int) : ∀ a, textL a ≠ 46 :: textL t := no_count _ (by rw [List.count_cons, text_count]; decide)
theorem no_blank (s : List UInt8) (h : (32 : UInt8) ∈ s) : ∀ a, textL a ≠ s := fun a e => by
  have := text_bytes a 32 (by rw [e]; exact h)
  rcases this with h | h
  · cases h
  · exact absurd h.1 (by decide)
theorem no_4 (t : Int) : ∀ a, textL a ≠ 32 :: textL t := no_blank _ (by simp)
theorem no_5 (t : Int) : ∀ a, textL a ≠ textL t ++ [32] := no_blank _ (by simp)
theorem no_6 (r : List UInt8) : ∀ a, textL a ≠ [50, 53, 54, 46] ++ r := fun a e => by
  rw [textL_d3] at e
  exact d3_256 _ (byN_lt a 0) (point_inj _ [50, 53, 54] _ r (d3_point _ (byN_lt a 0)) (by decide) e)
theorem no_of {s : List UInt8} (h : ReadIs s 0 3) : ∀ a, textL a ≠ s := by
  rcases h with ⟨h, -⟩ | ⟨-, -, h⟩
  · cases h
  · exact h
theorem no_7 : ∀ a, textL a ≠ [49, 46, 50, 46, 51] := no_count _ (by decide)
theorem no_8 : ∀ a, textL a ≠ [49, 46, 46, 50, 46, 51] := no_of (readIs_none _ (by decide +kernel))
theorem no_9 : ∀ a, textL a ≠ [49, 46, 50, 46, 51, 46, 50, 53, 54] := no_of (readIs_other _ 16909056 (by decide +kernel) (by rw [textL_d3]; decide +kernel))
theorem no_10 : ∀ a, textL a ≠ [49, 46, 50, 46, 51, 46, 45, 52] := fun a e => by
  have := text_bytes a 45 (by rw [e]; decide)
  rcases this with h | h
  · cases h
  · exact absurd h.1 (by decide)
theorem no_11 : ∀ a, textL a ≠ [49, 44, 50, 44, 51, 44, 52] := no_count _ (by decide)
theorem no_12 : ∀ a, textL a ≠ [] := no_count _ (by decide)
end Go.Proofs.YtjnmaplkikbjjaaDoor
