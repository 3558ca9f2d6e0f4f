/- The place of the best that is not one of them, as the statement seeks it. -/
import Derived.Test.YtioimebfenklkaaE10U
import Derived.Test.YtioimebfenklkaaE10T2
namespace Go.Proofs.Ytioimebfenklkaa
open Go.RowKit
set_option linter.unusedVariables false

def prL (L : List CandZ) (j : Nat) : Int := (L.getD j zeroK).prio
/-- The last of the best of the first i stands at k - 1; nobody, where k is 0. -/
def LastAt (L : List CandZ) (nt : Int) (i k : Nat) : Prop := (k = 0 ∧ ∀ j, j < i → (j : Int) ≠ nt → ¬ 0 < prL L j) ∨ (0 < k ∧ k ≤ i ∧ ((k - 1 : Nat) : Int) ≠ nt ∧ 0 < prL L (k - 1) ∧ ∀ j, j < i → (j : Int) ≠ nt → 0 < prL L j → prL L j < prL L (k - 1) ∨ (prL L j = prL L (k - 1) ∧ j ≤ k - 1))
theorem LastAt.skip {L : List CandZ} {nt : Int} {i k : Nat} (h : LastAt L nt i k) (hp : (i : Int) = nt ∨ ¬ 0 < prL L i) : LastAt L nt (i + 1) k := by
  rcases h with ⟨rfl, h⟩ | ⟨h0, h1, h2, h3, h4⟩
  · refine .inl ⟨rfl, fun j hj hn => ?_⟩
    by_cases e : j = i
    · subst e; exact hp.resolve_left hn
    · exact h j (by omega) hn
  · refine .inr ⟨h0, by omega, h2, h3, fun j hj hn hpj => ?_⟩
    by_cases e : j = i
    · subst e; exact absurd hpj (hp.resolve_left hn)
    · exact h4 j (by omega) hn hpj
theorem LastAt.take {L : List CandZ} {nt : Int} {i k : Nat} (h : LastAt L nt i k) (hn : (i : Int) ≠ nt) (hp : 0 < prL L i) (hk : k = 0 ∨ prL L (k - 1) ≤ prL L i) : LastAt L nt (i + 1) (i + 1) := by
  refine .inr ⟨by omega, by omega, hn, hp, fun j hj hnj hpj => ?_⟩
  show prL L j < prL L i ∨ (prL L j = prL L i ∧ j ≤ i)
  by_cases e : j = i
  · subst e; exact .inr ⟨rfl, Nat.le_refl _⟩
  · rcases h with ⟨rfl, h⟩ | ⟨h0, h1, h2, h3, h4⟩
    · exact absurd hpj (h j (by omega) hnj)
    · have := h4 j (by omega) hnj hpj
      have := hk.resolve_left (by omega)
      omega
theorem LastAt.keep {L : List CandZ} {nt : Int} {i k : Nat} (h : LastAt L nt i k) (h0 : 0 < k) (hk : prL L i < prL L (k - 1)) : LastAt L nt (i + 1) k := by
  rcases h with ⟨rfl, h⟩ | ⟨h0, h1, h2, h3, h4⟩
  · omega
  · refine .inr ⟨h0, by omega, h2, h3, fun j hj hn hpj => ?_⟩
    by_cases e : j = i
    · subst e; exact .inl hk
    · exact h4 j (by omega) hn hpj
def PlaceEnd (w : World) (L : List CandZ) (nt : Int) (e : Ending) (w' : World) : Prop := ∃ k : Nat, k ≤ L.length ∧ e = .returned (.int .i64 ((k : Int) - 1)) ∧ LastAt L nt L.length k ∧ Below w.heap.size w w'
set_option maxHeartbeats 6400000 in
theorem lbest_any (a : Option Addr) (n cap : Nat) (l : List CandZ) (nt : Int) (w : World) (hn : n = l.length) (hL : Lies w a (cellsOf candC l)) (hl : l.length ≤ 1000) :
    Calls Try.prog 14 #[.slice a n cap, .int .i64 nt] w (PlaceEnd w l nt) := by
  subst hn
  have HL : Hid (Lies w a (cellsOf candC l)) := hL
  have HN : Hid (l.length ≤ 1000) := hl
  clear hL hl
  go_enter Try.func14, Try.ntmps14
  go_wp2_with fail
  go_loopw [5, 6] (fun u t wr => ∃ k i : Nat, i ≤ l.length ∧ k ≤ l.length ∧ u = .int .i64 ((k : Int) - 1) ∧ t = .int .i64 i ∧ Hid (LastAt l nt i k) ∧ Hid (Below w.heap.size w wr)) (fun _ t _ => l.length - (intOf t).toNat)
  case atStart => exact ⟨0, 0, by omega, by omega, rfl, rfl, .inl ⟨rfl, fun j h => absurd h (by omega)⟩, Below.refl _ _⟩
  case round =>
    obtain ⟨k, i, hi, hkl, rfl, rfl, H, HB⟩ := hrel
    have hln := HN.out
    by_cases hlt : i < l.length
    · have hki : (i : Int) < (l.length : Int) := by omega
      obtain ⟨b, off, rfl, -, -, c2, -⟩ := Cands.cells (HL.out.below HB.out) i hlt
      have hpx : prL l i = l[i].prio := by unfold prL; rw [List.getD_eq_getElem?_getD, List.getElem?_eq_getElem hlt]; rfl
      rw [← hpx] at c2
      have HSK : Hid ((i : Int) = nt ∨ ¬ 0 < prL l i → LastAt l nt (i + 1) k) := fun h => H.out.skip h
      have HTK : Hid ((i : Int) ≠ nt → 0 < prL l i → (k = 0 ∨ prL l (k - 1) ≤ prL l i) → LastAt l nt (i + 1) (i + 1)) := fun h1 h2 h3 => H.out.take h1 h2 h3
      have HKP : Hid (0 < k → prL l i < prL l (k - 1) → LastAt l nt (i + 1) k) := fun h1 h2 => H.out.keep h1 h2
      clear hpx
      by_cases hin : (i : Int) = nt
      · have HS : Hid (LastAt l nt (i + 1) k) := HSK.out (.inl hin)
        subst hin
        generalize prL l i = P at *
        go_upto_region 5 with fail
        go_quiet (fail)
        have HB2 : Hid (Below w.heap.size w (wr.drewN nq)) := HB.out.trans ⟨rfl, rfl, rfl, Nat.le_refl _, fun _ _ => rfl⟩
        generalize wr.drewN nq = w3 at *
        clear c2 HSK HTK HKP H HB
        go_wp2
        go_roundw
        case rel => exact ⟨k, i + 1, by omega, by omega, by go_num, by go_num, HS.out, HB2.out⟩
        case measure => simp [intOf]; omega
      have hnb : ((i : Int) != nt) = true := by simpa using hin
      by_cases hp : 0 < prL l i
      rotate_left
      · have HS : Hid (LastAt l nt (i + 1) k) := HSK.out (.inr hp)
        generalize prL l i = P at *
        clear HSK HTK HKP H hin
        go_upto_region 5 with fail
        go_quiet (fail)
        have HB2 : Hid (Below w.heap.size w (wr.drewN nq)) := HB.out.trans ⟨rfl, rfl, rfl, Nat.le_refl _, fun _ _ => rfl⟩
        generalize wr.drewN nq = w3 at *
        clear c2 HB
        go_wp2
        go_roundw
        case rel => exact ⟨k, i + 1, by omega, by omega, by go_num, by go_num, HS.out, HB2.out⟩
        case measure => simp [intOf]; omega
      by_cases hk0 : k = 0
      · have HS : Hid (LastAt l nt (i + 1) (i + 1)) := HTK.out hin hp (.inl hk0)
        subst hk0
        have h01 : (((0 : Nat) : Int) - 1) = -1 := by omega
        rw [h01]
        clear h01 HSK HTK HKP H hin
        generalize prL l i = P at *
        go_upto_region 5 with fail
        go_quiet (fail)
        have HB2 : Hid (Below w.heap.size w (wr.drewN nq)) := HB.out.trans ⟨rfl, rfl, rfl, Nat.le_refl _, fun _ _ => rfl⟩
        generalize wr.drewN nq = w3 at *
        clear c2 HB
        go_wp2
        go_roundw
        case rel => exact ⟨i + 1, i + 1, by omega, by omega, by go_num, by go_num, HS.out, HB2.out⟩
        case measure => simp [intOf]; omega
      · obtain ⟨m, rfl⟩ : ∃ m, k = m + 1 := ⟨k - 1, by omega⟩
        have hml : m < l.length := by omega
        have h01 : (((m + 1 : Nat) : Int) - 1) = (m : Int) := by omega
        rw [h01]
        have hmI : (m : Int) < (l.length : Int) := by omega
        obtain ⟨b', off', e', -, -, d2, -⟩ := Cands.cells (HL.out.below HB.out) m hml
        cases e'
        have hpm : prL l m = l[m].prio := by unfold prL; rw [List.getD_eq_getElem?_getD, List.getElem?_eq_getElem hml]; rfl
        rw [← hpm] at d2
        by_cases hcmp : prL l m ≤ prL l i
        · have HS : Hid (LastAt l nt (i + 1) (i + 1)) := HTK.out hin hp (.inr hcmp)
          clear h01 HSK HTK HKP H hin hpm
          generalize prL l i = P at *
          generalize prL l m = Q at *
          go_upto_region 5 with fail
          go_quiet (fail)
          have HB2 : Hid (Below w.heap.size w (wr.drewN nq)) := HB.out.trans ⟨rfl, rfl, rfl, Nat.le_refl _, fun _ _ => rfl⟩
          generalize wr.drewN nq = w3 at *
          clear c2 d2 HB
          go_wp2
          go_roundw
          case rel => exact ⟨i + 1, i + 1, by omega, by omega, by go_num, by go_num, HS.out, HB2.out⟩
          case measure => simp [intOf]; omega
        · have HS : Hid (LastAt l nt (i + 1) (m + 1)) := HKP.out (by omega) (by show prL l i < prL l m; omega)
          clear h01 HSK HTK HKP H hin hpm
          generalize prL l i = P at *
          generalize prL l m = Q at *
          go_upto_region 5 with fail
          go_quiet (fail)
          have HB2 : Hid (Below w.heap.size w (wr.drewN nq)) := HB.out.trans ⟨rfl, rfl, rfl, Nat.le_refl _, fun _ _ => rfl⟩
          generalize wr.drewN nq = w3 at *
          clear c2 d2 HB
          go_wp2
          go_roundw
          case rel => exact ⟨m + 1, i + 1, by omega, by omega, by go_num, by go_num, HS.out, HB2.out⟩
          case measure => simp [intOf]; omega
    · have hke : i = l.length := by omega
      subst hke
      have hnl : ¬ ((l.length : Int) < (l.length : Int)) := by omega
      go_wp2
      go_ret
      exact ⟨k, hkl, rfl, H.out, HB.out⟩
end Go.Proofs.Ytioimebfenklkaa
