/- Routers that begin at once settle: in plain data. -/
import Derived.Test.YtioimebfenklkaaE10S
namespace Go.Proofs.Ytioimebfenklkaa
open Go.RowKit
set_option linter.unusedVariables false

def prZ (zs : List Int) (i : Nat) : Int := zs.getD i 0 % 4
def stAt (zs : List Int) (D B : Nat → Int) (i : Nat) : CandZ := ⟨1 + (i : Int), 11 + (i : Int), prZ zs i, D i, B i⟩
def stZ (zs : List Int) (n : Nat) (D B : Nat → Int) : List CandZ := (List.range n).map (stAt zs D B)
theorem stZ_len (zs : List Int) (n : Nat) (D B : Nat → Int) : (stZ zs n D B).length = n := by simp [stZ]
theorem stZ_at (zs : List Int) (n : Nat) (D B : Nat → Int) (i : Nat) (h : i < (stZ zs n D B).length) : (stZ zs n D B)[i] = stAt zs D B i := by simp [stZ]
theorem stZ_mem {zs : List Int} {n : Nat} {D B : Nat → Int} {x : CandZ} : x ∈ stZ zs n D B ↔ ∃ j, j < n ∧ stAt zs D B j = x := by
  unfold stZ
  simp [List.mem_map, List.mem_range]
def LeI (zs : List Int) (i j : Nat) : Prop := prZ zs i < prZ zs j ∨ (prZ zs i = prZ zs j ∧ i ≤ j)
theorem leC_of {zs : List Int} {D B : Nat → Int} {i j : Nat} (h : LeI zs i j) : LeC (stAt zs D B i) (stAt zs D B j) := by
  unfold LeI at h
  unfold LeC stAt
  simp only
  omega
/-- Those among whom a round goes. -/
def HM (zs : List Int) (n : Nat) (D B : Nat → Int) (s : CandZ) (l : List CandZ) : Prop := ∀ x, x ∈ s :: l ↔ ∃ j, j < n ∧ stAt zs D B j = x
section
variable {zs : List Int} {n : Nat} {D B : Nat → Int} {s : CandZ} {l : List CandZ}
theorem HM.at (h : HM zs n D B s l) {j : Nat} (hj : j < n) : stAt zs D B j ∈ s :: l := (h _).2 ⟨j, hj, rfl⟩
theorem rb_bak (h : HM zs n D B s l) {b : Nat} (hb : b < n) (hp : 0 < prZ zs b) (h1 : ¬ D b = 11 + (b : Int)) (h2 : B b = 11 + (b : Int)) (hu : ∀ j, j < n → ¬ D j = 11 + (j : Int) → B j = 11 + (j : Int) → j = b) : bdrZ (heardZ s l) = 11 + (b : Int) :=
  bdr_bak (h.at hb) ⟨hp, h1, h2⟩ fun x hx hq => by
    obtain ⟨j, hj, rfl⟩ := (h x).1 hx
    rw [hu j hj hq.2.1 hq.2.2]; exact LeC.refl _
theorem rb_oth (h : HM zs n D B s l) {b : Nat} (hb : b < n) (hp : 0 < prZ zs b) (h1 : ¬ D b = 11 + (b : Int)) (hno : ∀ j, j < n → ¬ D j = 11 + (j : Int) → ¬ B j = 11 + (j : Int)) (hall : ∀ j, j < n → 0 < prZ zs j → ¬ D j = 11 + (j : Int) → LeI zs j b) : bdrZ (heardZ s l) = 11 + (b : Int) :=
  bdr_oth (fun x hx hq => by
    obtain ⟨j, hj, rfl⟩ := (h x).1 hx
    exact hno j hj hq.2.1 hq.2.2) (h.at hb) ⟨hp, h1, hno b hb h1⟩ fun x hx hq => by
    obtain ⟨j, hj, rfl⟩ := (h x).1 hx
    exact leC_of (hall j hj hq.1 hq.2.1)
theorem rb_none (h : HM zs n D B s l) (hno : ∀ j, j < n → 0 < prZ zs j → D j = 11 + (j : Int)) : bdrZ (heardZ s l) = 0 :=
  bdr_none (fun x hx hq => by
    obtain ⟨j, hj, rfl⟩ := (h x).1 hx
    exact hq.2.1 (hno j hj hq.1)) (fun x hx hq => by
    obtain ⟨j, hj, rfl⟩ := (h x).1 hx
    exact hq.2.1 (hno j hj hq.1))
theorem rd_des (h : HM zs n D B s l) {a : Nat} (ha : a < n) (hp : 0 < prZ zs a) (h1 : D a = 11 + (a : Int)) (hu : ∀ j, j < n → D j = 11 + (j : Int) → j = a) : drZ (heardZ s l) = 11 + (a : Int) :=
  dr_des (h.at ha) ⟨hp, h1⟩ fun x hx hq => by
    obtain ⟨j, hj, rfl⟩ := (h x).1 hx
    rw [hu j hj hq.2]; exact LeC.refl _
theorem rd_none (h : HM zs n D B s l) (hno : ∀ j, j < n → 0 < prZ zs j → ¬ D j = 11 + (j : Int)) : drZ (heardZ s l) = bdrZ (heardZ s l) :=
  dr_none fun x hx hq => by
    obtain ⟨j, hj, rfl⟩ := (h x).1 hx
    exact hno j hj hq.1 hq.2
end
def upd (f : Nat → Int) (i : Nat) (v : Int) : Nat → Int := fun j => if j = i then v else f j
theorem hm_first (zs : List Int) (n : Nat) (D B : Nat → Int) (i : Nat) (hi : i < n) : HM zs n D B (stAt zs D B i) (othZ (stZ zs n D B) i n) := by
  intro x
  have := all_mem (stZ zs n D B) i (by rw [stZ_len]; exact hi) x
  rw [stZ_at, stZ_len] at this
  rw [this]; exact stZ_mem
theorem hm_second (zs : List Int) (n : Nat) (D B : Nat → Int) (i : Nat) (hi : i < n) (dr bdr : Int) : HM zs n (upd D i dr) (upd B i bdr) (saysZ (stAt zs D B i) dr bdr) (othZ (stZ zs n D B) i n) := by
  intro x
  have e : saysZ (stAt zs D B i) dr bdr = stAt zs (upd D i dr) (upd B i bdr) i := by simp [saysZ, stAt, upd]
  rw [List.mem_cons, e]
  have hl : n = (stZ zs n D B).length := (stZ_len zs n D B).symm
  constructor
  · rintro (rfl | h)
    · exact ⟨i, hi, rfl⟩
    · rw [show othZ (stZ zs n D B) i n = othZ (stZ zs n D B) i (stZ zs n D B).length by rw [stZ_len]] at h
      obtain ⟨j, h1, h2, rfl⟩ := (othZ_mem _ _ _).1 h
      rw [stZ_len] at h1
      refine ⟨j, h1, ?_⟩
      rw [stZ_at]
      simp [stAt, upd, h2]
  · rintro ⟨j, hj, rfl⟩
    by_cases hji : j = i
    · subst hji; exact .inl rfl
    · right
      rw [show othZ (stZ zs n D B) i n = othZ (stZ zs n D B) i (stZ zs n D B).length by rw [stZ_len]]
      refine (othZ_mem _ _ _).2 ⟨j, by rw [stZ_len]; exact hj, hji, ?_⟩
      rw [stZ_at]
      simp [stAt, upd, hji]
theorem turned_same {c : CandZ} {dr bdr : Int} (h1 : (dr = c.addr) ↔ (c.dr = c.addr)) (h2 : (bdr = c.addr) ↔ (c.bdr = c.addr)) : turnedZ c dr bdr = false := by
  have e1 : (dr == c.addr) = (c.dr == c.addr) := by
    by_cases h : c.dr = c.addr
    · rw [beq_iff_eq.2 h, beq_iff_eq.2 (h1.2 h)]
    · rw [beq_false_of_ne h, beq_false_of_ne (fun k => h (h1.1 k))]
  have e2 : (bdr == c.addr) = (c.bdr == c.addr) := by
    by_cases h : c.bdr = c.addr
    · rw [beq_iff_eq.2 h, beq_iff_eq.2 (h2.2 h)]
    · rw [beq_false_of_ne h, beq_false_of_ne (fun k => h (h2.1 k))]
  unfold turnedZ
  rw [e1, e2]; simp
theorem turned_bdr {c : CandZ} {dr bdr : Int} (h1 : bdr = c.addr) (h2 : ¬ c.bdr = c.addr) : turnedZ c dr bdr = true := by
  unfold turnedZ
  rw [beq_iff_eq.2 h1, beq_false_of_ne h2]; simp
theorem elect_calm {s : CandZ} {l : List CandZ} {dr bdr : Int} (h1 : drZ (heardZ s l) = dr) (h2 : bdrZ (heardZ s l) = bdr) (ht : turnedZ s dr bdr = false) : electZ s l = (dr, bdr) := by
  unfold electZ; rw [h1, h2, ht]; rfl
theorem elect_turn {s : CandZ} {l : List CandZ} {dr bdr dr2 bdr2 : Int} (h1 : drZ (heardZ s l) = dr) (h2 : bdrZ (heardZ s l) = bdr) (ht : turnedZ s dr bdr = true) (h3 : drZ (heardZ (saysZ s dr bdr) l) = dr2) (h4 : bdrZ (heardZ (saysZ s dr bdr) l) = bdr2) : electZ s l = (dr2, bdr2) := by
  unfold electZ; rw [h1, h2, ht, if_pos rfl, h3, h4]
/-- Nobody has a Prio. -/
theorem step_none (zs : List Int) (n : Nat) (hp : ∀ j, j < n → ¬ 0 < prZ zs j) (i : Nat) (hi : i < n) : electZ (stAt zs (fun _ => 0) (fun _ => 0) i) (othZ (stZ zs n (fun _ => 0) (fun _ => 0)) i n) = (0, 0) := by
  have hm := hm_first zs n (fun _ => 0) (fun _ => 0) i hi
  have hb := rb_none hm (fun j hj h => absurd h (hp j hj))
  have hd := (rd_none hm (fun j hj h => absurd h (hp j hj))).trans hb
  refine elect_calm hd hb (turned_same ?_ ?_) <;> simp [stAt]
def IsA (zs : List Int) (n a : Nat) : Prop := a < n ∧ 0 < prZ zs a ∧ ∀ j, j < n → 0 < prZ zs j → LeI zs j a
def IsBeta (zs : List Int) (n a : Nat) (β : Int) : Prop := (β = 0 ∧ ∀ j, j < n → 0 < prZ zs j → j = a) ∨ ∃ b, b < n ∧ b ≠ a ∧ 0 < prZ zs b ∧ β = 11 + (b : Int) ∧ ∀ j, j < n → 0 < prZ zs j → j ≠ a → LeI zs j b
section
variable {zs : List Int} {n a : Nat} {β : Int}
theorem step_one (hA : IsA zs n a) (hB : IsBeta zs n a β) (i : Nat) (hi : i < n) : electZ (stAt zs (fun _ => 0) (fun _ => 0) i) (othZ (stZ zs n (fun _ => 0) (fun _ => 0)) i n) = (11 + (a : Int), if i = a then β else 11 + (a : Int)) := by
  obtain ⟨ha, hpa, hall⟩ := hA
  have hm := hm_first zs n (fun _ => 0) (fun _ => 0) i hi
  have hb := rb_oth hm ha hpa (by show ¬ (0 : Int) = _; omega) (fun j _ _ => by show ¬ (0 : Int) = _; omega) (fun j hj hpj _ => hall j hj hpj)
  have hd := (rd_none hm (fun j hj _ => by show ¬ (0 : Int) = _; omega)).trans hb
  by_cases hia : i = a
  · subst hia
    rw [if_pos rfl]
    have hm2 := hm_second zs n (fun _ => 0) (fun _ => 0) i hi (11 + (i : Int)) (11 + (i : Int))
    have hu : ∀ j, upd (fun _ => 0) i (11 + (i : Int)) j = 11 + (j : Int) → j = i := fun j h => by
      unfold upd at h
      by_cases e : j = i
      · exact e
      · rw [if_neg e] at h
        have h' : (0 : Int) = 11 + (j : Int) := h
        omega
    have hself : upd (fun _ => 0) i (11 + (i : Int)) i = 11 + (i : Int) := by unfold upd; rw [if_pos rfl]
    have hd2 := rd_des hm2 ha hpa hself (fun j _ h => hu j h)
    refine elect_turn hd hb (turned_bdr rfl (by simp [stAt]; omega)) hd2 ?_
    rcases hB with ⟨rfl, h0⟩ | ⟨b, hb1, hb2, hb3, rfl, hb4⟩
    · exact rb_none hm2 (fun j hj hpj => by rw [h0 j hj hpj]; exact hself)
    · refine rb_oth hm2 hb1 hb3 (fun h => hb2 (hu b h)) (fun j hj h1 h2 => ?_) (fun j hj hpj h1 => hb4 j hj hpj (fun e => h1 (by rw [e]; exact hself)))
      exact h1 h2
  · rw [if_neg hia]
    refine elect_calm hd hb (turned_same ?_ ?_) <;> simp [stAt] <;> omega
theorem step_two (hA : IsA zs n a) (hB : IsBeta zs n a β) (i : Nat) (hi : i < n) : electZ (stAt zs (fun _ => 11 + (a : Int)) (fun j => if j = a then β else 11 + (a : Int)) i) (othZ (stZ zs n (fun _ => 11 + (a : Int)) (fun j => if j = a then β else 11 + (a : Int))) i n) = (11 + (a : Int), β) := by
  obtain ⟨ha, hpa, hall⟩ := hA
  have hm := hm_first zs n (fun _ => 11 + (a : Int)) (fun j => if j = a then β else 11 + (a : Int)) i hi
  have hd := rd_des hm ha hpa rfl (fun j _ h => by have : (11 + (a : Int)) = 11 + (j : Int) := h; omega)
  have hnb : ∀ j, j < n → ¬ (11 + (a : Int)) = 11 + (j : Int) → ¬ (if j = a then β else 11 + (a : Int)) = 11 + (j : Int) := fun j _ h => by
    have : j ≠ a := fun e => h (by rw [e])
    rw [if_neg this]; exact h
  rcases hB with ⟨rfl, h0⟩ | ⟨b, hb1, hb2, hb3, rfl, hb4⟩
  · have hb := rb_none hm (fun j hj hpj => by rw [h0 j hj hpj])
    refine elect_calm hd hb (turned_same ?_ ?_)
    · simp [stAt]
    · simp only [stAt]
      by_cases e : i = a
      · rw [if_pos e]
      · rw [if_neg e]; omega
  · have hb := rb_oth hm hb1 hb3 (by show ¬ (11 + (a : Int)) = 11 + (b : Int); omega) hnb (fun j hj hpj h1 => hb4 j hj hpj (fun e => h1 (by rw [e])))
    by_cases hib : i = b
    · subst hib
      refine elect_turn hd hb (turned_bdr rfl ?_) ?_ ?_
      · simp only [stAt]; rw [if_neg hb2]; omega
      · refine rd_des (hm_second zs n _ _ i hi (11 + (a : Int)) (11 + (i : Int))) ha hpa ?_ (fun j _ h => ?_)
        · unfold upd; rw [if_neg (Ne.symm hb2)]
        · unfold upd at h
          have : (11 + (a : Int)) = 11 + (j : Int) := by split at h <;> exact h
          omega
      · refine rb_bak (hm_second zs n _ _ i hi (11 + (a : Int)) (11 + (i : Int))) hi hb3 ?_ ?_ (fun j hj h1 h2 => ?_)
        · unfold upd; rw [if_pos rfl]; omega
        · unfold upd; rw [if_pos rfl]
        · unfold upd at h1 h2
          by_cases e : j = i
          · exact e
          · rw [if_neg e] at h1 h2
            exact absurd h2 (hnb j hj h1)
    · refine elect_calm hd hb (turned_same ?_ ?_)
      · simp [stAt]
      · simp only [stAt]
        by_cases e : i = a
        · rw [if_pos e]
        · rw [if_neg e]; omega
theorem step_more (hA : IsA zs n a) (hB : IsBeta zs n a β) (i : Nat) (hi : i < n) : electZ (stAt zs (fun _ => 11 + (a : Int)) (fun _ => β) i) (othZ (stZ zs n (fun _ => 11 + (a : Int)) (fun _ => β)) i n) = (11 + (a : Int), β) := by
  obtain ⟨ha, hpa, hall⟩ := hA
  have hm := hm_first zs n (fun _ => 11 + (a : Int)) (fun _ => β) i hi
  have hd := rd_des hm ha hpa rfl (fun j _ h => by have : (11 + (a : Int)) = 11 + (j : Int) := h; omega)
  rcases hB with ⟨rfl, h0⟩ | ⟨b, hb1, hb2, hb3, rfl, hb4⟩
  · have hb := rb_none hm (fun j hj hpj => by rw [h0 j hj hpj])
    exact elect_calm hd hb (turned_same (by simp [stAt]) (by simp [stAt]))
  · have hb := rb_bak hm hb1 hb3 (by show ¬ (11 + (a : Int)) = 11 + (b : Int); omega) rfl (fun j hj h1 h2 => by have : (11 + (b : Int)) = 11 + (j : Int) := h2; omega)
    exact elect_calm hd hb (turned_same (by simp [stAt]) (by simp [stAt]))
end
/-- Each says what Elect tells it. -/
def nextAt (L : List CandZ) (i : Nat) : CandZ := saysZ (L.getD i zeroK) (electZ (L.getD i zeroK) (othZ L i L.length)).1 (electZ (L.getD i zeroK) (othZ L i L.length)).2
def nextZ (L : List CandZ) : List CandZ := (List.range L.length).map (nextAt L)
theorem nextZ_len (L : List CandZ) : (nextZ L).length = L.length := by simp [nextZ]
def iterZ (zs : List Int) : Nat → List CandZ
  | 0 => freshZ zs zs.length
  | t + 1 => nextZ (iterZ zs t)
theorem iterZ_len (zs : List Int) (t : Nat) : (iterZ zs t).length = zs.length := by
  induction t with
  | zero => exact freshZ_len zs _
  | succ t ih => rw [iterZ, nextZ_len, ih]
theorem next_st {zs : List Int} {n : Nat} {D B D' B' : Nat → Int} (h : ∀ i, i < n → electZ (stAt zs D B i) (othZ (stZ zs n D B) i n) = (D' i, B' i)) : nextZ (stZ zs n D B) = stZ zs n D' B' := by
  unfold nextZ
  rw [stZ_len]
  unfold stZ
  apply List.map_congr_left
  intro i hi
  have hi' : i < n := by simpa using hi
  have e : ((List.range n).map (stAt zs D B)).getD i zeroK = stAt zs D B i := by simp [List.getD_eq_getElem?_getD, hi']
  have := h i hi'
  unfold stZ at this
  unfold nextAt
  rw [e, show ((List.range n).map (stAt zs D B)).length = n by simp, this]
  rfl
theorem fresh_st (zs : List Int) : freshZ zs zs.length = stZ zs zs.length (fun _ => 0) (fun _ => 0) := rfl
theorem iter_none {zs : List Int} (hp : ∀ j, j < zs.length → ¬ 0 < prZ zs j) (t : Nat) : iterZ zs t = stZ zs zs.length (fun _ => 0) (fun _ => 0) := by
  induction t with
  | zero => exact fresh_st zs
  | succ t ih => rw [iterZ, ih]; exact next_st (fun i hi => step_none zs _ hp i hi)
theorem iter_some {zs : List Int} {a : Nat} {β : Int} (hA : IsA zs zs.length a) (hB : IsBeta zs zs.length a β) (t : Nat) : iterZ zs (t + 2) = stZ zs zs.length (fun _ => 11 + (a : Int)) (fun _ => β) := by
  induction t with
  | zero =>
    show nextZ (nextZ (freshZ zs zs.length)) = _
    rw [fresh_st, next_st (fun i hi => step_one hA hB i hi)]
    exact next_st (fun i hi => step_two hA hB i hi)
  | succ t ih =>
    show nextZ (iterZ zs (t + 2)) = _
    rw [ih]
    exact next_st (fun i hi => step_more hA hB i hi)
end Go.Proofs.Ytioimebfenklkaa
