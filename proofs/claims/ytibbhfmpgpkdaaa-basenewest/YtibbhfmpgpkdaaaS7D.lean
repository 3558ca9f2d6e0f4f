/- Which head is newer: the call of package newer, and the document's. -/
import Derived.Test.YtibbhfmpgpkdaaaS7W1
import Derived.Deep.Cut
namespace Go.Proofs.Ytibbhfmpgpkdaaa
open Go.RowKit

structure Hd where
  age : Int
  kind : Int
  id : Int
  adv : Int
  seq : Int
  sum : Int
  len : Int
abbrev hdA (h : Hd) : Array Value := #[.int .i64 h.age, .int .i64 h.kind, .int .i64 h.id, .int .i64 h.adv, .int .i64 h.seq, .int .i64 h.sum, .int .i64 h.len]
/-- 1: the first is newer; -1: the second; 0: one instance. -/
def newI (ag sq sm ag' sq' sm' : Int) : Int :=
  if cmpZ sq sq' ≠ 0 then cmpZ sq sq' else if cmpZ sm sm' ≠ 0 then cmpZ sm sm' else if cmpZ (endZ ag) (endZ ag') ≠ 0 then cmpZ (endZ ag) (endZ ag')
  else if 900 < apZ ag ag' then cmpZ ag' ag else 0
theorem cmpZ_self (x : Int) : cmpZ x x = 0 := by simp [cmpZ]
theorem cmpZ_swap (x y : Int) : cmpZ x y = - cmpZ y x := by unfold cmpZ; (repeat' split) <;> omega
theorem apZ_swap (x y : Int) : apZ x y = apZ y x := by unfold apZ; (repeat' split) <;> omega
theorem newI_same (ag s m ag' : Int) (he : endZ ag = endZ ag') : newI ag s m ag' s m = if 900 < apZ ag ag' then cmpZ ag' ag else 0 := by
  unfold newI; rw [cmpZ_self, cmpZ_self, he, cmpZ_self]; simp
theorem newI_end (ag s m ag' : Int) (he : cmpZ (endZ ag) (endZ ag') ≠ 0) : newI ag s m ag' s m = cmpZ (endZ ag) (endZ ag') := by
  unfold newI; rw [cmpZ_self, cmpZ_self]; simp [he]
theorem newI_ep (ag s m ag' : Int) (h : 3600 ≤ ag) (h' : ¬ 3600 ≤ ag') : newI ag s m ag' s m = 1 := by
  have e : cmpZ (endZ ag) (endZ ag') = 1 := by unfold endZ; rw [if_pos h, if_neg h']; decide
  rw [newI_end _ _ _ _ (by rw [e]; decide), e]
theorem newI_em (ag s m ag' : Int) (h : ¬ 3600 ≤ ag) (h' : 3600 ≤ ag') : newI ag s m ag' s m = -1 := by
  have e : cmpZ (endZ ag) (endZ ag') = -1 := by unfold endZ; rw [if_neg h, if_pos h']; decide
  rw [newI_end _ _ _ _ (by rw [e]; decide), e]
theorem newI_swap (ag s m ag' s' m' : Int) : newI ag s m ag' s' m' = - newI ag' s' m' ag s m := by
  have h1 := cmpZ_swap s s'
  have h2 := cmpZ_swap m m'
  have h3 := cmpZ_swap (endZ ag) (endZ ag')
  have h4 := cmpZ_swap ag' ag
  have h5 := apZ_swap ag ag'
  unfold newI
  rw [h1, h2, h3, h4, h5]
  (repeat' split) <;> omega
theorem newI_self (ag s m : Int) : newI ag s m ag s m = 0 := by
  rw [newI_same _ _ _ _ rfl]; simp [cmpZ_self]
theorem cmpZ_three (x y : Int) : cmpZ x y = -1 ∨ cmpZ x y = 0 ∨ cmpZ x y = 1 := by unfold cmpZ; (repeat' split) <;> omega
theorem newI_three (ag s m ag' s' m' : Int) : newI ag s m ag' s' m' = -1 ∨ newI ag s m ag' s' m' = 0 ∨ newI ag s m ag' s' m' = 1 := by
  have h1 := cmpZ_three s s'
  have h2 := cmpZ_three m m'
  have h3 := cmpZ_three (endZ ag) (endZ ag')
  have h4 := cmpZ_three ag' ag
  unfold newI
  (repeat' split) <;> omega
theorem newI_rows {ag s m ag' s' m' ag'' s'' m'' : Int} (h1 : ¬ (s = s' ∧ m = m')) (h2 : ¬ (s' = s'' ∧ m' = m'')) (h3 : 0 < newI ag s m ag' s' m') (h4 : 0 < newI ag' s' m' ag'' s'' m'') : newI ag s m ag'' s'' m'' = 1 := by
  have k : ∀ a s m a' s' m' : Int, ¬ (s = s' ∧ m = m') → 0 < newI a s m a' s' m' → s' < s ∨ (s = s' ∧ m' < m) := by
    intro a s m a' s' m' hn hp
    rcases cmpZ_cases s s' with ⟨e, h⟩ | ⟨e, h⟩ | ⟨e, h⟩
    · unfold newI at hp; rw [e] at hp; simp at hp
    · subst h
      rcases cmpZ_cases m m' with ⟨e', h'⟩ | ⟨e', h'⟩ | ⟨e', h'⟩
      · unfold newI at hp; rw [e, e'] at hp; simp at hp
      · exact absurd ⟨rfl, h'⟩ hn
      · exact .inr ⟨rfl, h'⟩
    · exact .inl h
  have a1 := k _ _ _ _ _ _ h1 h3
  have a2 := k _ _ _ _ _ _ h2 h4
  rcases cmpZ_cases s s'' with ⟨e, h⟩ | ⟨e, h⟩ | ⟨e, h⟩
  · omega
  · subst h
    rcases cmpZ_cases m m'' with ⟨e', h'⟩ | ⟨e', h'⟩ | ⟨e', h'⟩
    · omega
    · omega
    · unfold newI; rw [e, e']; simp
  · unfold newI; rw [e]; simp
end Go.Proofs.Ytibbhfmpgpkdaaa
