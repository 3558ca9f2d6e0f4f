/- Who is designated: what the answers hang on. -/
import Derived.Test.YtioimebfenklkaaE10P
namespace Go.Proofs.Ytioimebfenklkaa
open Go.RowKit
set_option linter.unusedVariables false

def desB (x : CandZ) : Prop := 0 < x.prio ∧ x.dr = x.addr
def bakB (x : CandZ) : Prop := 0 < x.prio ∧ ¬ x.dr = x.addr ∧ x.bdr = x.addr
def othB (x : CandZ) : Prop := 0 < x.prio ∧ ¬ x.dr = x.addr ∧ ¬ x.bdr = x.addr
/-- c is the best of those of L with p; nobody, where there are none. -/
def IsTop (p : CandZ → Prop) (L : List CandZ) (c : CandZ) : Prop := (c = zeroK ∧ ∀ x ∈ L, ¬ p x) ∨ (0 < c.prio ∧ c ∈ L ∧ p c ∧ ∀ x ∈ L, p x → LeC x c)
theorem betZ_zero {x : CandZ} (h : 0 < x.prio) : betZ zeroK x = x := by
  unfold betZ
  rw [if_pos]
  rw [cmpK_neg]
  unfold LeC zeroK
  simp
  omega
theorem IsTop.yes {p : CandZ → Prop} {L : List CandZ} {c x : CandZ} (h : IsTop p L c) (hx : 0 < x.prio) (hp : p x) : IsTop p (L ++ [x]) (betZ c x) := by
  right
  rcases h with ⟨rfl, hn⟩ | ⟨h0, h1, h2, h3⟩
  · rw [betZ_zero hx]
    refine ⟨hx, by simp, hp, fun y hy hpy => ?_⟩
    simp at hy
    rcases hy with hy | rfl
    · exact absurd hpy (hn y hy)
    · exact LeC.refl _
  · obtain ⟨k1, k2, k3⟩ := betZ_le c x
    have hall : ∀ y ∈ L ++ [x], p y → LeC y (betZ c x) := by
      intro y hy hpy
      simp at hy
      rcases hy with hy | rfl
      · exact (h3 y hy hpy).trans k1
      · exact k2
    rcases k3 with k3 | k3
    · rw [k3] at hall ⊢
      exact ⟨h0, by simp [h1], h2, hall⟩
    · rw [k3] at hall ⊢
      exact ⟨hx, by simp, hp, hall⟩
theorem IsTop.no {p : CandZ → Prop} {L : List CandZ} {c x : CandZ} (h : IsTop p L c) (hp : ¬ p x) : IsTop p (L ++ [x]) c := by
  rcases h with ⟨rfl, hn⟩ | ⟨h0, h1, h2, h3⟩
  · refine .inl ⟨rfl, fun y hy => ?_⟩
    simp at hy
    rcases hy with hy | rfl
    · exact hn y hy
    · exact hp
  · refine .inr ⟨h0, by simp [h1], h2, fun y hy hpy => ?_⟩
    simp at hy
    rcases hy with hy | rfl
    · exact h3 y hy hpy
    · exact absurd hpy hp
def TopsOf (L : List CandZ) (c : ClaimsZ) : Prop := IsTop desB L c.d ∧ IsTop bakB L c.b ∧ IsTop othB L c.r
theorem TopsOf.hear {L : List CandZ} {c : ClaimsZ} (h : TopsOf L c) (x : CandZ) : TopsOf (L ++ [x]) (hearZ c x) := by
  obtain ⟨h1, h2, h3⟩ := h
  unfold hearZ
  by_cases k1 : x.prio ≤ 0
  · rw [if_pos k1]
    exact ⟨h1.no (fun h => by have := h.1; omega), h2.no (fun h => by have := h.1; omega), h3.no (fun h => by have := h.1; omega)⟩
  · rw [if_neg k1]
    have k0 : 0 < x.prio := by omega
    by_cases k2 : x.dr = x.addr
    · rw [if_pos k2]
      exact ⟨h1.yes k0 ⟨k0, k2⟩, h2.no (fun h => h.2.1 k2), h3.no (fun h => h.2.1 k2)⟩
    · rw [if_neg k2]
      by_cases k3 : x.bdr = x.addr
      · rw [if_pos k3]
        exact ⟨h1.no (fun h => k2 h.2), h2.yes k0 ⟨k0, k2, k3⟩, h3.no (fun h => h.2.2 k3)⟩
      · rw [if_neg k3]
        exact ⟨h1.no (fun h => k2 h.2), h2.no (fun h => k3 h.2.2), h3.yes k0 ⟨k0, k2, k3⟩⟩
theorem tops_from (l : List CandZ) : ∀ (L : List CandZ) (c : ClaimsZ), TopsOf L c → TopsOf (L ++ l) (l.foldl hearZ c) := by
  induction l with
  | nil => intro L c h; simpa using h
  | cons x l ih =>
    intro L c h
    have := ih (L ++ [x]) (hearZ c x) (h.hear x)
    simpa using this
theorem tops_any (self : CandZ) (l : List CandZ) : TopsOf (self :: l) (heardZ self l) := by
  have h0 : TopsOf [] noClaims := ⟨.inl ⟨rfl, fun x hx => by cases hx⟩, .inl ⟨rfl, fun x hx => by cases hx⟩, .inl ⟨rfl, fun x hx => by cases hx⟩⟩
  exact tops_from l _ _ (h0.hear self)
theorem IsTop.addrOr {p : CandZ → Prop} {L : List CandZ} {c : CandZ} (h : IsTop p L c) {t : CandZ} (ht : t ∈ L) (hp : p t) (hall : ∀ x ∈ L, p x → LeC x t) (o : Int) : addrOrZ c o = t.addr ∧ c.addr = t.addr := by
  rcases h with ⟨rfl, hn⟩ | ⟨h0, h1, h2, h3⟩
  · exact absurd hp (hn t ht)
  · have : c.addr = t.addr := (hall c h1 h2).addr (h3 t ht hp)
    unfold addrOrZ
    rw [if_neg (by omega)]
    exact ⟨this, this⟩
theorem IsTop.noAddr {p : CandZ → Prop} {L : List CandZ} {c : CandZ} (h : IsTop p L c) (hn : ∀ x ∈ L, ¬ p x) (o : Int) : addrOrZ c o = o ∧ c.addr = 0 := by
  rcases h with ⟨rfl, _⟩ | ⟨h0, h1, h2, h3⟩
  · exact ⟨rfl, rfl⟩
  · exact absurd h2 (hn c h1)
section
variable {self : CandZ} {l : List CandZ}
theorem bdr_bak {t : CandZ} (ht : t ∈ self :: l) (hp : bakB t) (hall : ∀ x ∈ self :: l, bakB x → LeC x t) : bdrZ (heardZ self l) = t.addr := ((tops_any self l).2.1.addrOr ht hp hall _).1
theorem bdr_oth (hn : ∀ x ∈ self :: l, ¬ bakB x) {t : CandZ} (ht : t ∈ self :: l) (hp : othB t) (hall : ∀ x ∈ self :: l, othB x → LeC x t) : bdrZ (heardZ self l) = t.addr :=
  ((tops_any self l).2.1.noAddr hn _).1.trans ((tops_any self l).2.2.addrOr ht hp hall 0).2
theorem bdr_none (hn : ∀ x ∈ self :: l, ¬ bakB x) (hm : ∀ x ∈ self :: l, ¬ othB x) : bdrZ (heardZ self l) = 0 :=
  ((tops_any self l).2.1.noAddr hn _).1.trans ((tops_any self l).2.2.noAddr hm 0).2
theorem dr_des {t : CandZ} (ht : t ∈ self :: l) (hp : desB t) (hall : ∀ x ∈ self :: l, desB x → LeC x t) : drZ (heardZ self l) = t.addr := ((tops_any self l).1.addrOr ht hp hall _).1
theorem dr_none (hn : ∀ x ∈ self :: l, ¬ desB x) : drZ (heardZ self l) = bdrZ (heardZ self l) := ((tops_any self l).1.noAddr hn _).1
end
/-- Of each property somebody is the best, or nobody has it. -/
theorem top_or (p : CandZ → Prop) (L : List CandZ) : (∀ x ∈ L, ¬ p x) ∨ ∃ t ∈ L, p t ∧ ∀ x ∈ L, p x → LeC x t := by
  induction L with
  | nil => exact .inl fun x hx => by cases hx
  | cons y L ih =>
    by_cases hy : p y
    · right
      rcases ih with hn | ⟨t, ht, hp, hall⟩
      · exact ⟨y, by simp, hy, fun x hx hpx => by
          rcases List.mem_cons.1 hx with rfl | hx
          · exact LeC.refl _
          · exact absurd hpx (hn x hx)⟩
      · rcases LeC.total y t with h | h
        · exact ⟨t, by simp [ht], hp, fun x hx hpx => by
            rcases List.mem_cons.1 hx with rfl | hx
            · exact h
            · exact hall x hx hpx⟩
        · exact ⟨y, by simp, hy, fun x hx hpx => by
            rcases List.mem_cons.1 hx with rfl | hx
            · exact LeC.refl _
            · exact (hall x hx hpx).trans h⟩
    · rcases ih with hn | ⟨t, ht, hp, hall⟩
      · exact .inl fun x hx => by
          rcases List.mem_cons.1 hx with rfl | hx
          · exact hy
          · exact hn x hx
      · exact .inr ⟨t, by simp [ht], hp, fun x hx hpx => by
          rcases List.mem_cons.1 hx with rfl | hx
          · exact absurd hpx hy
          · exact hall x hx hpx⟩
theorem round_same {self : CandZ} {l m : List CandZ} (h : ∀ x, x ∈ l ↔ x ∈ m) : drZ (heardZ self l) = drZ (heardZ self m) ∧ bdrZ (heardZ self l) = bdrZ (heardZ self m) := by
  have hm : ∀ x, x ∈ self :: l ↔ x ∈ self :: m := fun x => by simp [h]
  have hb : bdrZ (heardZ self l) = bdrZ (heardZ self m) := by
    rcases top_or bakB (self :: l) with h1 | ⟨t, h1, h2, h3⟩
    · rcases top_or othB (self :: l) with k1 | ⟨t, k1, k2, k3⟩
      · rw [bdr_none h1 k1, bdr_none (fun x hx => h1 x ((hm x).2 hx)) (fun x hx => k1 x ((hm x).2 hx))]
      · rw [bdr_oth h1 k1 k2 k3, bdr_oth (fun x hx => h1 x ((hm x).2 hx)) ((hm t).1 k1) k2 (fun x hx => k3 x ((hm x).2 hx))]
    · rw [bdr_bak h1 h2 h3, bdr_bak ((hm t).1 h1) h2 (fun x hx => h3 x ((hm x).2 hx))]
  refine ⟨?_, hb⟩
  rcases top_or desB (self :: l) with h1 | ⟨t, h1, h2, h3⟩
  · rw [dr_none h1, dr_none (fun x hx => h1 x ((hm x).2 hx)), hb]
  · rw [dr_des h1 h2 h3, dr_des ((hm t).1 h1) h2 (fun x hx => h3 x ((hm x).2 hx))]
theorem elect_same {self : CandZ} {l m : List CandZ} (h : ∀ x, x ∈ l ↔ x ∈ m) : electZ self l = electZ self m := by
  unfold electZ
  obtain ⟨h1, h2⟩ := round_same (self := self) h
  rw [h1, h2]
  obtain ⟨h3, h4⟩ := round_same (self := saysZ self (drZ (heardZ self m)) (bdrZ (heardZ self m))) h
  rw [h3, h4]
end Go.Proofs.Ytioimebfenklkaa
