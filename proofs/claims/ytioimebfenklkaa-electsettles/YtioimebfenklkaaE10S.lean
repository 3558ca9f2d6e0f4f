/- Who is designated stays so: in plain data. -/
import Derived.Test.YtioimebfenklkaaE10K
namespace Go.Proofs.Ytioimebfenklkaa
open Go.RowKit
set_option linter.unusedVariables false

theorem round_two {self : CandZ} {l : List CandZ} {t u : CandZ} (ht : t ∈ self :: l) (hd : desB t) (hdu : ∀ x ∈ self :: l, desB x → x = t) (hu : u ∈ self :: l) (hb : bakB u) (hbu : ∀ x ∈ self :: l, bakB x → x = u) :
    drZ (heardZ self l) = t.addr ∧ bdrZ (heardZ self l) = u.addr :=
  ⟨dr_des ht hd fun x hx hp => by rw [hdu x hx hp]; exact LeC.refl _, bdr_bak hu hb fun x hx hp => by rw [hbu x hx hp]; exact LeC.refl _⟩
def stayAt (zs : List Int) (i : Nat) : CandZ := ⟨1 + (i : Int), 11 + (i : Int), 1 + zs.getD i 0 % 4, 11, 12⟩
def stayZ (zs : List Int) (n : Nat) : List CandZ := (List.range n).map (stayAt zs)
theorem stayZ_len (zs : List Int) (n : Nat) : (stayZ zs n).length = n := by simp [stayZ]
def newcomer (p : Int) : CandZ := ⟨90, 99, 9 + p, 0, 0⟩
def comeZ (zs : List Int) (p : Int) : List CandZ := stayZ zs zs.length ++ [newcomer p]
theorem comeZ_len (zs : List Int) (p : Int) : (comeZ zs p).length = zs.length + 1 := by simp [comeZ, stayZ_len]
theorem stay_mem {zs : List Int} {n : Nat} {x : CandZ} : x ∈ stayZ zs n ↔ ∃ j, j < n ∧ stayAt zs j = x := by
  unfold stayZ
  simp [List.mem_map, List.mem_range]
theorem stay_des {zs : List Int} {j : Nat} (h : desB (stayAt zs j)) : j = 0 := by
  have := h.2
  unfold stayAt at this
  simp at this
  omega
theorem stay_bak {zs : List Int} {j : Nat} (h : bakB (stayAt zs j)) : j = 1 := by
  have := h.2.2
  unfold stayAt at this
  simp at this
  omega
theorem stay_prio (zs : List Int) (j : Nat) : 0 < (stayAt zs j).prio := by unfold stayAt; show 0 < 1 + _ % (4 : Int); omega
theorem come_two (zs : List Int) (p : Int) (h2 : 2 ≤ zs.length) (i : Nat) (hi : i < (comeZ zs p).length) : electZ (comeZ zs p)[i] (othZ (comeZ zs p) i (comeZ zs p).length) = (11, 12) := by
  have hm := all_mem (comeZ zs p) i hi
  have hin : ∀ x, x ∈ comeZ zs p → (∃ j, j < zs.length ∧ stayAt zs j = x) ∨ x = newcomer p := fun x hx => by
    unfold comeZ at hx
    rcases List.mem_append.1 hx with h | h
    · exact .inl (stay_mem.1 h)
    · exact .inr (by simpa using h)
  have hst : ∀ j, j < zs.length → stayAt zs j ∈ comeZ zs p := fun j hj => List.mem_append.2 (.inl (stay_mem.2 ⟨j, hj, rfl⟩))
  have hself := hin _ (List.getElem_mem hi)
  obtain ⟨s, hs⟩ : ∃ s, (comeZ zs p)[i] = s := ⟨_, rfl⟩
  rw [hs] at hm hself
  rw [hs]
  obtain ⟨hdr, hbdr⟩ := round_two (self := s) (l := othZ (comeZ zs p) i (comeZ zs p).length) (t := stayAt zs 0) (u := stayAt zs 1) ((hm _).2 (hst 0 (by omega))) ⟨stay_prio zs 0, by simp [stayAt]⟩
    (fun x hx hp => by
      rcases hin x ((hm x).1 hx) with ⟨j, -, rfl⟩ | rfl
      · rw [stay_des hp]
      · exact absurd hp.2 (by simp [newcomer]))
    ((hm _).2 (hst 1 (by omega))) ⟨stay_prio zs 1, by simp [stayAt], by simp [stayAt]⟩
    (fun x hx hp => by
      rcases hin x ((hm x).1 hx) with ⟨j, -, rfl⟩ | rfl
      · rw [stay_bak hp]
      · exact absurd hp.2.2 (by simp [newcomer]))
  have h11 : (stayAt zs 0).addr = 11 := by simp [stayAt]
  have h12 : (stayAt zs 1).addr = 12 := by simp [stayAt]
  rw [h11] at hdr
  rw [h12] at hbdr
  unfold electZ
  rw [hdr, hbdr]
  have ht : turnedZ s 11 12 = false := by
    rcases hself with ⟨j, -, rfl⟩ | rfl
    · unfold turnedZ stayAt; simp
    · unfold turnedZ newcomer; simp
  rw [ht]; rfl
def goneZ (zs : List Int) : List CandZ := (stayZ zs zs.length).drop 1
theorem goneZ_len (zs : List Int) : (goneZ zs).length = zs.length - 1 := by simp [goneZ, stayZ_len]
theorem gone_mem {zs : List Int} {x : CandZ} (h : x ∈ goneZ zs) : ∃ j, 0 < j ∧ j < zs.length ∧ stayAt zs j = x := by
  obtain ⟨i, hi, rfl⟩ := List.mem_iff_getElem.1 h
  rw [goneZ_len] at hi
  refine ⟨i + 1, by omega, by omega, ?_⟩
  simp [goneZ, stayZ]
theorem gone_first (zs : List Int) (h2 : 2 ≤ zs.length) : (goneZ zs)[0]'(by rw [goneZ_len]; omega) = stayAt zs 1 := by simp [goneZ, stayZ]
theorem gone_two (zs : List Int) (h2 : 2 ≤ zs.length) : (electZ (stayAt zs 1) (othZ (goneZ zs) 0 (goneZ zs).length)).1 = 12 := by
  have h0 : 0 < (goneZ zs).length := by rw [goneZ_len]; omega
  have hm := all_mem (goneZ zs) 0 h0
  rw [gone_first zs h2] at hm
  have h12 : (stayAt zs 1).addr = 12 := by simp [stayAt]
  have hno : ∀ x ∈ stayAt zs 1 :: othZ (goneZ zs) 0 (goneZ zs).length, ¬ desB x := fun x hx hp => by
    obtain ⟨j, hj, -, rfl⟩ := gone_mem ((hm x).1 hx)
    have := stay_des hp
    omega
  have hb : bdrZ (heardZ (stayAt zs 1) (othZ (goneZ zs) 0 (goneZ zs).length)) = 12 := by
    rw [← h12]
    refine bdr_bak (by simp) ⟨stay_prio zs 1, by simp [stayAt], by simp [stayAt]⟩ (fun x hx hp => ?_)
    obtain ⟨j, hj, -, rfl⟩ := gone_mem ((hm x).1 hx)
    rw [stay_bak hp]; exact LeC.refl _
  have hd := (dr_none hno).trans hb
  unfold electZ
  rw [hd, hb]
  have ht : turnedZ (stayAt zs 1) 12 12 = true := by unfold turnedZ stayAt; simp
  rw [ht]
  show drZ (heardZ (saysZ (stayAt zs 1) 12 12) (othZ (goneZ zs) 0 (goneZ zs).length)) = 12
  refine (dr_des (t := saysZ (stayAt zs 1) 12 12) (by simp) ⟨stay_prio zs 1, by simp [saysZ, stayAt]⟩ (fun x hx hp => ?_)).trans h12
  rcases List.mem_cons.1 hx with rfl | hx
  · exact LeC.refl _
  · exact absurd hp (hno x (List.mem_cons.2 (.inr hx)))
/-- The first i say (11, 12), and have one Prio more. -/
def mixZ (zs : List Int) (n i : Nat) : List CandZ := (List.range n).map fun j => if j < i then stayAt zs j else freshAt zs j
theorem mixZ_len (zs : List Int) (n i : Nat) : (mixZ zs n i).length = n := by simp [mixZ]
theorem mixZ_zero (zs : List Int) (n : Nat) : mixZ zs n 0 = freshZ zs n := by unfold mixZ freshZ; simp
theorem mixZ_end (zs : List Int) (n : Nat) : mixZ zs n n = stayZ zs n := by
  unfold mixZ stayZ
  apply List.map_congr_left
  intro j hj
  rw [if_pos (by simpa using hj)]
theorem mixZ_at (zs : List Int) (n i : Nat) (hi : i < n) : (mixZ zs n i)[i]'(by rw [mixZ_len]; exact hi) = freshAt zs i := by simp [mixZ]
theorem mixZ_more (zs : List Int) (n i : Nat) (hi : i < n) : (mixZ zs n i).set i (stayAt zs i) = mixZ zs n (i + 1) := by
  apply List.ext_getElem
  · simp [mixZ]
  · intro j h1 h2
    rw [List.getElem_set]
    by_cases e : i = j
    · subst e; simp [mixZ]
    · rw [if_neg e]
      simp only [mixZ, List.getElem_map, List.getElem_range]
      by_cases h : j < i
      · rw [if_pos h, if_pos (by omega)]
      · rw [if_neg h, if_neg (by omega)]
end Go.Proofs.Ytioimebfenklkaa
