/- The document's round and the program's are one, in plain data. -/
import Derived.Test.YtioimebfenklkaaE10F
namespace Go.Proofs.Ytioimebfenklkaa
open Go.RowKit
set_option linter.unusedVariables false

/-- What a round of the document tells. -/
def RoundIs (L : List CandZ) (dr bdr : Int) : Prop := ((L.any (smB 2) = true ∧ AddrIs (qB 2 false) L bdr) ∨ (L.any (smB 2) = false ∧ AddrIs (qB 1 true) L bdr)) ∧ ((L.any (smB 1) = true ∧ AddrIs (qB 1 false) L dr) ∨ (L.any (smB 1) = false ∧ dr = bdr))
theorem q2_iff (x : CandZ) : qB 2 false x = true ↔ bakB x := by
  unfold qB claimZ bakB
  by_cases h1 : x.dr = x.addr <;> by_cases h2 : x.bdr = x.addr <;> simp [h1, h2]
theorem q1_iff (x : CandZ) : qB 1 false x = true ↔ desB x := by
  unfold qB claimZ desB
  by_cases h1 : x.dr = x.addr <;> by_cases h2 : x.bdr = x.addr <;> simp [h1, h2]
theorem q1n_iff (x : CandZ) : qB 1 true x = true ↔ (bakB x ∨ othB x) := by
  unfold qB claimZ bakB othB
  by_cases h1 : x.dr = x.addr <;> by_cases h2 : x.bdr = x.addr <;> simp [h1, h2]
theorem sm_q (c : Int) (x : CandZ) : smB c x = qB c false x := by unfold smB qB; simp
theorem any_no {f : CandZ → Bool} {L : List CandZ} (h : L.any f = false) : ∀ x ∈ L, ¬ f x = true := fun x hx hf => by
  rw [List.any_eq_false] at h
  exact h x hx hf
theorem any_yes {f : CandZ → Bool} {L : List CandZ} (h : L.any f = true) : ∃ x ∈ L, f x = true := List.any_eq_true.1 h
theorem addr_top {p : CandZ → Bool} {L : List CandZ} {a : Int} (h : AddrIs p L a) {x : CandZ} (hx : x ∈ L) (hp : p x = true) : ∃ t ∈ L, p t = true ∧ (∀ y ∈ L, p y = true → LeC y t) ∧ a = t.addr := by
  rcases h with ⟨_, h⟩ | h
  · exact absurd hp (h x hx)
  · exact h
theorem round_one {self : CandZ} {l L : List CandZ} {dr bdr : Int} (hm : ∀ x, x ∈ L ↔ x ∈ self :: l) (h : RoundIs L dr bdr) : dr = drZ (heardZ self l) ∧ bdr = bdrZ (heardZ self l) := by
  obtain ⟨hb, hd⟩ := h
  have hbe : bdr = bdrZ (heardZ self l) := by
    rcases hb with ⟨h1, h2⟩ | ⟨h1, h2⟩
    · obtain ⟨x, hx, hp⟩ := any_yes h1
      rw [sm_q] at hp
      obtain ⟨t, ht, hpt, hall, rfl⟩ := addr_top h2 hx hp
      exact (bdr_bak ((hm t).1 ht) ((q2_iff t).1 hpt) (fun y hy hpy => hall y ((hm y).2 hy) ((q2_iff y).2 hpy))).symm
    · have hno : ∀ x ∈ self :: l, ¬ bakB x := fun x hx hp => any_no h1 x ((hm x).2 hx) (by rw [sm_q]; exact (q2_iff x).2 hp)
      rcases h2 with ⟨rfl, h2⟩ | ⟨t, ht, hpt, hall, rfl⟩
      · exact (bdr_none hno (fun x hx hp => h2 x ((hm x).2 hx) ((q1n_iff x).2 (.inr hp)))).symm
      · have hpo : othB t := ((q1n_iff t).1 hpt).resolve_left (hno t ((hm t).1 ht))
        exact (bdr_oth hno ((hm t).1 ht) hpo (fun y hy hpy => hall y ((hm y).2 hy) ((q1n_iff y).2 (.inr hpy)))).symm
  refine ⟨?_, hbe⟩
  rcases hd with ⟨h1, h2⟩ | ⟨h1, rfl⟩
  · obtain ⟨x, hx, hp⟩ := any_yes h1
    rw [sm_q] at hp
    obtain ⟨t, ht, hpt, hall, rfl⟩ := addr_top h2 hx hp
    exact (dr_des ((hm t).1 ht) ((q1_iff t).1 hpt) (fun y hy hpy => hall y ((hm y).2 hy) ((q1_iff y).2 hpy))).symm
  · have hno : ∀ x ∈ self :: l, ¬ desB x := fun x hx hp => any_no h1 x ((hm x).2 hx) (by rw [sm_q]; exact (q1_iff x).2 hp)
    rw [dr_none hno, hbe]
end Go.Proofs.Ytioimebfenklkaa
