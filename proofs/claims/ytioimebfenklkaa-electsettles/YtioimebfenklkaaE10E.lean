/- The document's election: does anybody claim so; the best of some. -/
import Derived.Test.YtioimebfenklkaaE10D
namespace Go.Proofs.Ytioimebfenklkaa
open Go.RowKit
set_option linter.unusedVariables false

def smB (claim : Int) (x : CandZ) : Bool := decide (0 < x.prio) && (claimZ x == claim)
theorem any_take_succ {α : Type} (f : α → Bool) (l : List α) (k : Nat) (hk : k < l.length) : (l.take (k + 1)).any f = ((l.take k).any f || f l[k]) := by
  rw [← List.take_append_getElem hk, List.any_append]; simp
theorem any_at {α : Type} (f : α → Bool) (l : List α) (k : Nat) (hk : k < l.length) (h : f l[k] = true) : l.any f = true := List.any_eq_true.2 ⟨_, List.getElem_mem hk, h⟩
set_option maxHeartbeats 3200000 in
theorem rsome_any (a : Option Addr) (n cap : Nat) (l : List CandZ) (claim : Int) (w : World) (hn : n = l.length) (hL : Lies w a (cellsOf candC l)) (hl : l.length ≤ 1000000) :
    Calls Try.prog 21 #[.slice a n cap, .int .i64 claim] w fun e w' => e = .returned (.bool (l.any (smB claim))) ∧ Below w.heap.size w w' := by
  subst hn
  have HL : Hid (Lies w a (cellsOf candC l)) := hL
  have HN : Hid (l.length ≤ 1000000) := hl
  clear hL hl
  go_enter Try.func21, Try.ntmps21
  go_wp2
  go_loopw [5] (fun t wr => ∃ k : Nat, k ≤ l.length ∧ t = .int .i64 k ∧ Hid ((l.take k).any (smB claim) = false) ∧ Hid (Below w.heap.size w wr)) (fun t _ => l.length - (intOf t).toNat)
  case atStart => exact ⟨0, by omega, rfl, by show _ = _; simp, Below.refl _ _⟩
  case round =>
    obtain ⟨k, hk, rfl, H, HB⟩ := hrel
    by_cases hlt : k < l.length
    · have hki : (k : Int) < (l.length : Int) := by omega
      have hln := HN.out
      obtain ⟨b, off, rfl, c0, c1, c2, c3, c4⟩ := Cands.cells (HL.out.below HB.out) k hlt
      have HM : Hid ((l.take (k + 1)).any (smB claim) = ((l.take k).any (smB claim) || smB claim l[k])) := any_take_succ _ _ _ hlt
      have HA : Hid (smB claim l[k] = true → l.any (smB claim) = true) := any_at _ _ _ hlt
      obtain ⟨x, hx⟩ : ∃ x, l[k] = x := ⟨_, rfl⟩
      rw [hx] at c0 c1 c2 c3 c4 HM HA
      clear hx
      by_cases hp : 0 < x.prio
      · obtain ⟨v, hv⟩ : ∃ v, claimZ x = v := ⟨_, rfl⟩
        have CC := rclaims_any x v hv
        cases hvc : (v == claim)
        · have HS : Hid (smB claim x = false) := by show _ = _; unfold smB; rw [hv, hvc]; simp
          have hvn : ¬ v = claim := by simpa using hvc
          clear hvc hv
          go_wp2_with fail
          refine (CC _).mono ?_
          rintro e w2 ⟨rfl, hb⟩
          have HB2 : Hid (Below w.heap.size w w2) := below_more HB.out hb HB.out.size
          clear hb c0 c1 c2 c3 c4 HB CC
          go_wp2
          go_roundw
          case rel => exact ⟨k + 1, by omega, by go_num, by show _ = _; rw [HM.out, H.out, HS.out]; rfl, HB2.out⟩
          case measure => simp [intOf]; omega
        · have HS : Hid (smB claim x = true) := by show _ = _; unfold smB; rw [hv, hvc]; simp [hp]
          have HR := HA.out HS.out
          have HRR : Hid (l.any (smB claim) = true) := HR
          clear hv HR
          go_wp2_with fail
          refine (CC _).mono ?_
          rintro e w2 ⟨rfl, hb⟩
          have HB2 : Hid (Below w.heap.size w w2) := below_more HB.out hb HB.out.size
          clear hb c0 c1 c2 c3 c4 HB CC
          go_wp2
          go_ret
          exact ⟨ret_bool HRR.out.symm, HB2.out⟩
      · have HS : Hid (smB claim x = false) := by show _ = _; unfold smB; simp [hp]
        go_wp2
        go_roundw
        case rel => exact ⟨k + 1, by omega, by go_num, by show _ = _; rw [HM.out, H.out, HS.out]; rfl, HB.out⟩
        case measure => simp [intOf]; omega
    · have hke : k = l.length := by omega
      subst hke
      have HR : Hid (l.any (smB claim) = false) := by have := H.out; rw [List.take_length] at this; exact this
      have hnl : ¬ ((l.length : Int) < (l.length : Int)) := by omega
      clear H
      go_wp2
      go_ret
      exact ⟨ret_bool HR.out.symm, HB.out⟩
/-- a is the Addr of the best of those of L with p; 0, where there are none. -/
def AddrIs (p : CandZ → Bool) (L : List CandZ) (a : Int) : Prop := (a = 0 ∧ ∀ x ∈ L, ¬ p x = true) ∨ ∃ t ∈ L, p t = true ∧ (∀ x ∈ L, p x = true → LeC x t) ∧ a = t.addr
/-- The best of the first i stands at k - 1; nobody, where k is 0. -/
def BestAt (p : CandZ → Bool) (L : List CandZ) (i k : Nat) : Prop := (k = 0 ∧ ∀ j (h : j < L.length), j < i → ¬ p L[j] = true) ∨ (0 < k ∧ k ≤ i ∧ ∃ hk : k - 1 < L.length, p L[k - 1] = true ∧ ∀ j (h : j < L.length), j < i → p L[j] = true → LeC L[j] L[k - 1])
theorem BestAt.skip {p : CandZ → Bool} {L : List CandZ} {i k : Nat} (h : BestAt p L i k) (hi : i < L.length) (hp : ¬ p L[i] = true) : BestAt p L (i + 1) k := by
  rcases h with ⟨rfl, h⟩ | ⟨h0, h1, hk, h2, h3⟩
  · refine .inl ⟨rfl, fun j hj hji => ?_⟩
    by_cases e : j = i
    · subst e; exact hp
    · exact h j hj (by omega)
  · refine .inr ⟨h0, by omega, hk, h2, fun j hj hji hpj => ?_⟩
    by_cases e : j = i
    · subst e; exact absurd hpj hp
    · exact h3 j hj (by omega) hpj
theorem BestAt.take0 {p : CandZ → Bool} {L : List CandZ} {i : Nat} (h : BestAt p L i 0) (hi : i < L.length) (hp : p L[i] = true) : BestAt p L (i + 1) (i + 1) := by
  rcases h with ⟨_, h⟩ | ⟨h0, _⟩
  · refine .inr ⟨by omega, by omega, by omega, hp, fun j hj hji hpj => ?_⟩
    by_cases e : j = i
    · subst e; exact LeC.refl _
    · exact absurd hpj (h j hj (by omega))
  · omega
theorem BestAt.take1 {p : CandZ → Bool} {L : List CandZ} {i k : Nat} (h : BestAt p L i k) (hi : i < L.length) (hp : p L[i] = true) (hk : k - 1 < L.length) (hb : LeC L[k - 1] L[i]) (h0 : 0 < k) : BestAt p L (i + 1) (i + 1) := by
  rcases h with ⟨rfl, h⟩ | ⟨h0, h1, hk, h2, h3⟩
  · omega
  · refine .inr ⟨by omega, by omega, by omega, hp, fun j hj hji hpj => ?_⟩
    by_cases e : j = i
    · subst e; exact LeC.refl _
    · exact (h3 j hj (by omega) hpj).trans hb
theorem BestAt.keep {p : CandZ → Bool} {L : List CandZ} {i k : Nat} (h : BestAt p L i k) (hi : i < L.length) (hk : k - 1 < L.length) (hb : LeC L[i] L[k - 1]) (h0 : 0 < k) : BestAt p L (i + 1) k := by
  rcases h with ⟨rfl, h⟩ | ⟨h0, h1, hk, h2, h3⟩
  · omega
  · refine .inr ⟨h0, by omega, hk, h2, fun j hj hji hpj => ?_⟩
    by_cases e : j = i
    · subst e; exact hb
    · exact h3 j hj (by omega) hpj
theorem BestAt.end0 {p : CandZ → Bool} {L : List CandZ} (h : BestAt p L L.length 0) : AddrIs p L 0 := by
  rcases h with ⟨_, h⟩ | ⟨h0, _⟩
  · refine .inl ⟨rfl, fun x hx => ?_⟩
    obtain ⟨j, hj, rfl⟩ := List.mem_iff_getElem.1 hx
    exact h j hj hj
  · omega
theorem BestAt.end1 {p : CandZ → Bool} {L : List CandZ} {k : Nat} (h : BestAt p L L.length k) (h0 : 0 < k) : ∃ hk : k - 1 < L.length, AddrIs p L L[k - 1].addr := by
  rcases h with ⟨rfl, h⟩ | ⟨_, h1, hk, h2, h3⟩
  · omega
  · refine ⟨hk, .inr ⟨_, List.getElem_mem hk, h2, fun x hx hpx => ?_, rfl⟩⟩
    obtain ⟨j, hj, rfl⟩ := List.mem_iff_getElem.1 hx
    exact h3 j hj hj hpx
end Go.Proofs.Ytioimebfenklkaa
