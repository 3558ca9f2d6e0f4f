/- Plain facts on messages of groups: their bytes, what is told of them, when. -/
import Derived.Test.YtnnmaelnkoihjaaBE
namespace Go.Proofs.Ytnnmaelnkoihjaa

def codeZ (k : Int) : Int := if k = 1 then 17 else if k = 2 then 18 else if k = 3 then 22 else if k = 4 then 23 else 0
def kindZ (f : Int) : Int := if f = 17 then 1 else if f = 18 then 2 else if f = 22 then 3 else if f = 23 then 4 else 0
def multiB (a : Int) : Bool := decide (a / 268435456 = 14)
/-- Whether Time and Group are as the kind wants. -/
def argB (k t g : Int) : Bool := decide (0 ≤ t ∧ t ≤ 255) && (decide (k = 1) || decide (t = 0)) && (multiB g || (decide (k = 1) && decide (g = 0)))
/-- Which error Put tells. -/
def putE (k t g : Int) : Int := if k < 1 ∨ 4 < k then 5 else if argB k t g = true then 0 else 1
/-- The eight bytes, with c as the sum. -/
def layC (f t g c : Int) : List Int := [f % 256, t % 256] ++ be2 c ++ be4 g
def layZ (f t g : Int) : List Int := layC f t g (inetZ (layC f t g 0))
def grpZ (zs : List Int) : Int := num4 (zs.getD 4 0) (zs.getD 5 0) (zs.getD 6 0) (zs.getD 7 0)
def wantZ4 (zs : List Int) : List Int := layZ (zs.getD 0 0) (zs.getD 1 0) (grpZ zs)
/-- Which error Get tells. -/
def getE4 (zs : List Int) : Int := if zs.length < 8 then 2 else if 8 < zs.length then 3 else if zs = wantZ4 zs then putE (kindZ (zs.getD 0 0)) (zs.getD 1 0) (grpZ zs) else 4

theorem layC_length (f t g c : Int) : (layC f t g c).length = 8 := rfl
theorem layZ_length (f t g : Int) : (layZ f t g).length = 8 := rfl
theorem layC_bd (f t g c : Int) : ∀ z ∈ layC f t g c, 0 ≤ z ∧ z ≤ 255 := by
  intro z hz
  simp only [layC, be2, be4, List.cons_append, List.nil_append, List.mem_cons, List.not_mem_nil, or_false] at hz
  omega
theorem layZ_bd (f t g : Int) : ∀ z ∈ layZ f t g, 0 ≤ z ∧ z ≤ 255 := layC_bd _ _ _ _
theorem kindZ_code (k : Int) (h0 : 1 ≤ k) (h1 : k ≤ 4) : kindZ (codeZ k) = k := by
  have : k = 1 ∨ k = 2 ∨ k = 3 ∨ k = 4 := by omega
  rcases this with rfl | rfl | rfl | rfl <;> rfl
theorem codeZ_kind (f : Int) (h : kindZ f ≠ 0) : codeZ (kindZ f) = f := by
  unfold kindZ at *
  split at h
  · subst_vars; rfl
  split at h
  · subst_vars; rfl
  split at h
  · subst_vars; rfl
  split at h
  · subst_vars; rfl
  · exact absurd rfl h
theorem codeZ_bd (k : Int) : 0 ≤ codeZ k ∧ codeZ k ≤ 255 := by unfold codeZ; repeat' split
                                                               all_goals omega
theorem kindZ_bd (f : Int) : 0 ≤ kindZ f ∧ kindZ f ≤ 4 := by unfold kindZ; repeat' split
                                                             all_goals omega
theorem multiB_bd {g : Int} (h : multiB g = true) : 3758096384 ≤ g ∧ g ≤ 4026531839 := by unfold multiB at h; simp at h; omega
theorem putE_cases4 (k t g : Int) : putE k t g = 5 ∨ putE k t g = 0 ∨ putE k t g = 1 := by
  unfold putE; split
  · simp
  · split <;> simp
theorem putE_zero {k t g : Int} (h : putE k t g = 0) : 1 ≤ k ∧ k ≤ 4 ∧ 0 ≤ t ∧ t ≤ 255 ∧ 0 ≤ g ∧ g ≤ 4294967295 := by
  unfold putE at h
  split at h
  · cases h
  · split at h
    · rename_i h1 h2
      simp only [argB, Bool.and_eq_true, Bool.or_eq_true, decide_eq_true_eq] at h2
      obtain ⟨⟨ht, _⟩, hg⟩ := h2
      refine ⟨by omega, by omega, ht.1, ht.2, ?_⟩
      rcases hg with hg | hg
      · have := multiB_bd hg; omega
      · omega
    · cases h
theorem putE_kind {k t g : Int} (h : k < 1 ∨ 4 < k) : putE k t g = 5 := by unfold putE; rw [if_pos h]
theorem putE_arg {k t g : Int} (h0 : 1 ≤ k) (h1 : k ≤ 4) (h : argB k t g = false) : putE k t g = 1 := by unfold putE; rw [if_neg (by omega), if_neg (by simp [h])]
theorem putE_ok {k t g : Int} (h0 : 1 ≤ k) (h1 : k ≤ 4) (h : argB k t g = true) : putE k t g = 0 := by unfold putE; rw [if_neg (by omega), if_pos h]

theorem list8 {zs : List Int} (h : zs.length = 8) : ∃ a b c d e f g i, zs = [a, b, c, d, e, f, g, i] := by
  match zs, h with
  | [a, b, c, d, e, f, g, i], _ => exact ⟨a, b, c, d, e, f, g, i, rfl⟩
/-- In numbers: when eight bytes have the right sum. -/
theorem want_iff (a b c d e f g i : Int) (hz : ∀ z ∈ [a, b, c, d, e, f, g, i], 0 ≤ z ∧ z ≤ 255) :
    [a, b, c, d, e, f, g, i] = wantZ4 [a, b, c, d, e, f, g, i] ↔ c * 256 + d = inetZ [a, b, 0, 0, e, f, g, i] := by
  simp only [List.mem_cons, List.not_mem_nil, or_false, forall_eq_or_imp, forall_eq] at hz
  obtain ⟨ha, hb, hc, hd, he, hf, hg, hi⟩ := hz
  have e0 : layC a b (num4 e f g i) 0 = [a, b, 0, 0, e, f, g, i] := by
    unfold layC
    rw [be4_num4 _ _ _ _ he hf hg hi, show a % 256 = a by omega, show b % 256 = b by omega]
    rfl
  have e1 : wantZ4 [a, b, c, d, e, f, g, i] = [a, b, inetZ [a, b, 0, 0, e, f, g, i] / 256 % 256, inetZ [a, b, 0, 0, e, f, g, i] % 256, e, f, g, i] := by
    show layZ a b (num4 e f g i) = _
    unfold layZ
    rw [e0]
    unfold layC
    rw [be4_num4 _ _ _ _ he hf hg hi, show a % 256 = a by omega, show b % 256 = b by omega]
    rfl
  have hbd := inetZ_bd [a, b, 0, 0, e, f, g, i]
  rw [e1]
  generalize inetZ [a, b, 0, 0, e, f, g, i] = n at *
  simp only [List.cons.injEq, and_true, true_and]
  omega
end Go.Proofs.Ytnnmaelnkoihjaa
