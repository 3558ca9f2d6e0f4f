/- Plain facts: what is told is read back; cut and lengthened bytes are none. -/
import Derived.Test.YtknpgpmckabmbaaDoorS3R
namespace Go.Proofs.YtknpgpmckabmbaaDoor

theorem okB_bd {t p s d : Int} (h : okB t p s d = true) : (0 ≤ t ∧ t ≤ 255) ∧ (0 ≤ p ∧ p ≤ 255) ∧ (0 ≤ s ∧ s ≤ 4294967295) ∧ (0 ≤ d ∧ d ≤ 4294967295) := by
  unfold okB rightI at h
  simp only [Bool.and_eq_true, decide_eq_true_eq] at h
  exact ⟨h.1.1.1, h.1.1.2, h.1.2, h.2⟩
theorem putE_zero {t p s d : Int} {n : Nat} (h : putE t p s d n = 0) : okB t p s d = true ∧ n ≤ 1024 := by
  unfold putE at h
  by_cases h1 : okB t p s d = false
  · rw [if_pos h1] at h; cases h
  · rw [if_neg h1] at h
    by_cases h2 : 1024 < n
    · rw [if_pos h2] at h; cases h
    · exact ⟨by simpa using h1, by omega⟩
/-- The bytes that Put tells. -/
def putB (t p s d : Int) (xs : List Int) : List Int := ipZ t p s d xs.length ++ xs
section
variable {t p s d : Int} {xs : List Int}
theorem putB_length : (putB t p s d xs).length = 20 + xs.length := by unfold putB; rw [List.length_append, ipZ_length]
theorem putB_drop : (putB t p s d xs).drop 20 = xs := by
  unfold putB; rw [List.drop_append_of_le_length (by rw [ipZ_length]; exact Nat.le_refl _)]; rfl
theorem putB_take : (putB t p s d xs).take 20 = ipZ t p s d xs.length := by
  unfold putB; rw [List.take_append_of_le_length (by rw [ipZ_length]; exact Nat.le_refl _)]; rfl
theorem putB_getD (k : Nat) (hk : k < 20) : (putB t p s d xs).getD k 0 = (ipZ t p s d xs.length).getD k 0 := by
  unfold putB
  rw [List.getD_eq_getElem?_getD, List.getD_eq_getElem?_getD, List.getElem?_append_left (by rw [ipZ_length]; exact hk)]
theorem putB_bd (hx : ∀ z ∈ xs, 0 ≤ z ∧ z ≤ 255) : ∀ z ∈ putB t p s d xs, 0 ≤ z ∧ z ≤ 255 := by
  intro z hz
  unfold putB at hz
  rcases List.mem_append.1 hz with h | h
  · exact headZ_bd _ _ _ _ _ _ z h
  · exact hx z h
theorem putB_T (h : okB t p s d = true) : getT (putB t p s d xs) = t := by
  unfold getT; rw [putB_getD 8 (by decide)]; show t % 256 = t; have := (okB_bd h).1; omega
theorem putB_P (h : okB t p s d = true) : getP (putB t p s d xs) = p := by
  unfold getP; rw [putB_getD 9 (by decide)]; show p % 256 = p; have := (okB_bd h).2.1; omega
theorem putB_S (h : okB t p s d = true) : getS (putB t p s d xs) = s := by
  unfold getS; rw [putB_getD 12 (by decide), putB_getD 13 (by decide), putB_getD 14 (by decide), putB_getD 15 (by decide)]
  have := (okB_bd h).2.2.1
  exact num4_be4 s this.1 this.2
theorem putB_A (h : okB t p s d = true) : getA (putB t p s d xs) = d := by
  unfold getA; rw [putB_getD 16 (by decide), putB_getD 17 (by decide), putB_getD 18 (by decide), putB_getD 19 (by decide)]
  have := (okB_bd h).2.2.2
  exact num4_be4 d this.1 this.2
theorem putB_want (h : okB t p s d = true) : wantZ (putB t p s d xs) = ipZ t p s d xs.length := by
  unfold wantZ; rw [putB_T h, putB_P h, putB_S h, putB_A h, putB_length]; congr 1; omega
theorem putB_ok (h : okB t p s d = true) (hn : xs.length ≤ 1024) : getE (putB t p s d xs) = 0 := by
  have h20 : (putB t p s d xs).take 20 = wantZ (putB t p s d xs) := by rw [putB_want h, putB_take]
  have h8 : (putB t p s d xs).take 8 = (wantZ (putB t p s d xs)).take 8 := by rw [← h20, List.take_take]; rfl
  unfold getE
  rw [if_neg (by rw [putB_length]; omega), if_neg (by rw [putB_length]; omega), if_pos h8, if_pos h20]
end
/-- Two told datagrams with the same bytes are one. -/
theorem putB_inj {t p s d t' p' s' d' : Int} {xs ys : List Int} (h : okB t p s d = true) (h' : okB t' p' s' d' = true) (e : putB t p s d xs = putB t' p' s' d' ys) : t = t' ∧ p = p' ∧ s = s' ∧ d = d' ∧ xs = ys :=
  ⟨by rw [← putB_T (xs := xs) h, e, putB_T h'], by rw [← putB_P (xs := xs) h, e, putB_P h'], by rw [← putB_S (xs := xs) h, e, putB_S h'], by rw [← putB_A (xs := xs) h, e, putB_A h'], by rw [← putB_drop (t := t) (p := p) (s := s) (d := d) (xs := xs), e, putB_drop]⟩
theorem cut_none (zs : List Int) (hz : ∀ k, 0 ≤ zs.getD k 0 ∧ zs.getD k 0 ≤ 255) (hz' : ∀ m k, 0 ≤ (zs.take m).getD k 0 ∧ (zs.take m).getD k 0 ≤ 255) (h : getE zs = 0) (m : Nat) (hm : m < zs.length) : getE (zs.take m) ≠ 0 := by
  intro h'
  obtain ⟨l1, l2, a0, a1, a2, _⟩ := (getE_zero zs hz).1 h
  obtain ⟨k1, k2, b0, b1, b2, _⟩ := (getE_zero _ (hz' m)).1 h'
  have hl : (zs.take m).length = m := by rw [List.length_take]; omega
  rw [hl] at k1 b2
  have e2 : (zs.take m).getD 2 0 = zs.getD 2 0 := by simp [List.getD_eq_getElem?_getD, show 2 < m by omega]
  have e3 : (zs.take m).getD 3 0 = zs.getD 3 0 := by simp [List.getD_eq_getElem?_getD, show 3 < m by omega]
  rw [e2, e3] at b2
  omega
theorem more_none (zs ys : List Int) (hz : ∀ k, 0 ≤ zs.getD k 0 ∧ zs.getD k 0 ≤ 255) (hz' : ∀ k, 0 ≤ (zs ++ ys).getD k 0 ∧ (zs ++ ys).getD k 0 ≤ 255) (h : getE zs = 0) (hy : ys ≠ []) : getE (zs ++ ys) = 3 := by
  obtain ⟨l1, l2, a0, a1, a2, _⟩ := (getE_zero zs hz).1 h
  have hy' : 0 < ys.length := by cases ys with | nil => exact absurd rfl hy | cons _ _ => simp
  have hl : (zs ++ ys).length = zs.length + ys.length := List.length_append
  by_cases h2 : 1044 < (zs ++ ys).length
  · unfold getE; rw [if_neg (by omega), if_pos h2]
  · have hf : ¬ (zs ++ ys).take 8 = (wantZ (zs ++ ys)).take 8 := by
      intro e
      have := (form_iff (zs ++ ys) hz' (by omega) (by omega)).1 e
      have b2 := this.2.2.2
      have e2 : (zs ++ ys).getD 2 0 = zs.getD 2 0 := by simp [List.getD_eq_getElem?_getD, List.getElem?_append_left (show 2 < zs.length by omega)]
      have e3 : (zs ++ ys).getD 3 0 = zs.getD 3 0 := by simp [List.getD_eq_getElem?_getD, List.getElem?_append_left (show 3 < zs.length by omega)]
      rw [e2, e3] at b2
      omega
    unfold getE; rw [if_neg (by omega), if_neg h2, if_neg hf]
end Go.Proofs.YtknpgpmckabmbaaDoor
