/- Routers that say nothing yet; all but one. -/
import Derived.Test.YtioimebfenklkaaE10H
import Derived.Test.YtioimebfenklkaaE10B
namespace Go.Proofs.Ytioimebfenklkaa
open Go.RowKit
set_option linter.unusedVariables false

def freshAt (zs : List Int) (i : Nat) : CandZ := ⟨1 + (i : Int), 11 + (i : Int), zs.getD i 0 % 4, 0, 0⟩
def freshZ (zs : List Int) (n : Nat) : List CandZ := (List.range n).map (freshAt zs)
theorem freshZ_len (zs : List Int) (n : Nat) : (freshZ zs n).length = n := by simp [freshZ]
theorem freshZ_more (zs : List Int) (n : Nat) : freshZ zs (n + 1) = freshZ zs n ++ [freshAt zs n] := by unfold freshZ; rw [List.range_succ, List.map_append]; rfl
def othZ (l : List CandZ) (k n : Nat) : List CandZ := ((List.range n).filter fun j => j != k).map fun j => l.getD j zeroK
theorem othZ_len (l : List CandZ) (k n : Nat) : (othZ l k n).length ≤ n := by
  unfold othZ
  rw [List.length_map]
  exact Nat.le_trans (List.length_filter_le _ _) (by simp)
theorem othZ_more (l : List CandZ) (k n : Nat) (hn : n < l.length) (h : n ≠ k) : othZ l k (n + 1) = othZ l k n ++ [l[n]] := by
  unfold othZ
  rw [List.range_succ, List.filter_append, List.map_append]
  simp [h, List.getD_eq_getElem?_getD, List.getElem?_eq_getElem hn]
theorem othZ_same (l : List CandZ) (k : Nat) : othZ l k (k + 1) = othZ l k k := by
  unfold othZ
  rw [List.range_succ, List.filter_append, List.map_append]
  simp
theorem othZ_mem (l : List CandZ) (k : Nat) (x : CandZ) : x ∈ othZ l k l.length ↔ ∃ j, ∃ h : j < l.length, j ≠ k ∧ l[j] = x := by
  unfold othZ
  simp only [List.mem_map, List.mem_filter, List.mem_range, bne_iff_ne]
  constructor
  · rintro ⟨j, ⟨h1, h2⟩, rfl⟩
    exact ⟨j, h1, h2, by simp [List.getD_eq_getElem?_getD, List.getElem?_eq_getElem h1]⟩
  · rintro ⟨j, h1, h2, rfl⟩
    exact ⟨j, ⟨h1, h2⟩, by simp [List.getD_eq_getElem?_getD, List.getElem?_eq_getElem h1]⟩
/-- self and the others are all. -/
theorem all_mem (l : List CandZ) (k : Nat) (hk : k < l.length) (x : CandZ) : x ∈ l[k] :: othZ l k l.length ↔ x ∈ l := by
  rw [List.mem_cons, othZ_mem]
  constructor
  · rintro (rfl | ⟨j, h1, -, rfl⟩)
    · exact List.getElem_mem hk
    · exact List.getElem_mem h1
  · intro h
    obtain ⟨j, hj, rfl⟩ := List.mem_iff_getElem.1 h
    by_cases e : j = k
    · subst e; exact .inl rfl
    · exact .inr ⟨j, hj, e, rfl⟩
def MadeEnd (w : World) (L : List CandZ) (e : Ending) (w' : World) : Prop := ∃ v, e = .returned v ∧ OwnC w' w.heap.size v L ∧ Below w.heap.size w w'
set_option maxHeartbeats 3200000 in
theorem fresh_any (a : Option Addr) (n cap : Nat) (zs : List Int) (w : World) (hn : n = zs.length) (hB : Bts w a zs) (hz : AreBytes zs) (hl : zs.length ≤ 1000) :
    Calls Try.prog 12 #[.slice a n cap] w (MadeEnd w (freshZ zs zs.length)) := by
  subst hn
  have HBT : Hid (Bts w a zs) := hB
  have HZ : Hid (AreBytes zs) := hz
  have HN : Hid (zs.length ≤ 1000) := hl
  clear hB hz hl
  go_enter Try.func12, Try.ntmps12
  go_wp2_with fail
  go_loopw [3, 4] (fun u t wr => ∃ i : Nat, i ≤ zs.length ∧ t = .int .i64 i ∧ Hid (OwnC wr w.heap.size u (freshZ zs i)) ∧ Hid (Below w.heap.size w wr)) (fun _ t _ => zs.length - (intOf t).toNat)
  case atStart => exact ⟨0, by omega, rfl, ownC_nil _ _, Below.refl _ _⟩
  case round =>
    obtain ⟨i, hi, rfl, HO, HB⟩ := hrel
    have hln := HN.out
    by_cases hlt : i < zs.length
    · have hki : (i : Int) < (zs.length : Int) := by omega
      rcases HBT.out with h0 | ⟨b, off, rfl, hc⟩
      · rw [h0] at hlt; simp at hlt
      have c0 : wr.cell? ⟨b, off + i, none⟩ = some (.int .u8 (zs.getD i 0)) := by
        rcases (Bts.below HBT.out (HB.out.mono (Nat.le_refl _))) with h0 | ⟨b', off', e, hc'⟩
        · rw [h0] at hlt; simp at hlt
        · cases e; exact hc' i hlt
      have hzb := areBytes_getD HZ.out i
      have HM : Hid (freshZ zs (i + 1) = freshZ zs i ++ [⟨1 + (i : Int), 11 + (i : Int), zs.getD i 0 % 4, 0, 0⟩]) := freshZ_more zs i
      generalize zs.getD i 0 = z at *
      clear hc
      have hsz := HB.out.size
      have hfl : (freshZ zs i).length + 1 ≤ 1000000 := by rw [freshZ_len]; omega
      go_wp2_with (at_builtin; go_must (refine wp_append_cand wr _ rfl rfl _ _ rfl w.heap.size u3 _ rfl HO.out ⟨1 + (i : Int), 11 + (i : Int), z % 4, 0, 0⟩ rfl hfl hsz ?_))
      intro v' w3 ho hb
      have HO3 : Hid (OwnC w3 w.heap.size v' (freshZ zs (i + 1))) := by show OwnC _ _ _ _; rw [HM.out]; exact ho
      have HB3 : Hid (Below w.heap.size w w3) := HB.out.trans hb
      clear ho hb c0 HB HO HM
      go_wp2
      go_roundw
      case rel => exact ⟨i + 1, by omega, by go_num, HO3.out, HB3.out⟩
      case measure => simp [intOf]; omega
    · have hke : i = zs.length := by omega
      subst hke
      have hnl : ¬ ((zs.length : Int) < (zs.length : Int)) := by omega
      go_wp2
      go_ret
      exact ⟨_, rfl, HO.out, HB.out⟩
set_option maxHeartbeats 3200000 in
theorem others_any (a : Option Addr) (n cap : Nat) (l : List CandZ) (k : Nat) (w : World) (hn : n = l.length) (hL : Lies w a (cellsOf candC l)) (hl : l.length ≤ 1000) :
    Calls Try.prog 13 #[.slice a n cap, .int .i64 k] w (MadeEnd w (othZ l k l.length)) := by
  subst hn
  have HL : Hid (Lies w a (cellsOf candC l)) := hL
  have HN : Hid (l.length ≤ 1000) := hl
  clear hL hl
  go_enter Try.func13, Try.ntmps13
  go_wp2_with fail
  go_loopw [5, 6] (fun u t wr => ∃ i : Nat, i ≤ l.length ∧ t = .int .i64 i ∧ Hid (OwnC wr w.heap.size u (othZ l k i)) ∧ Hid (Below w.heap.size w wr)) (fun _ t _ => l.length - (intOf t).toNat)
  case atStart => exact ⟨0, by omega, rfl, ownC_nil _ _, Below.refl _ _⟩
  case round =>
    obtain ⟨i, hi, rfl, HO, HB⟩ := hrel
    have hln := HN.out
    by_cases hlt : i < l.length
    · have hki : (i : Int) < (l.length : Int) := by omega
      by_cases hik : i = k
      · subst hik
        have HO2 : Hid (OwnC wr w.heap.size u5 (othZ l i (i + 1))) := by show OwnC _ _ _ _; rw [othZ_same]; exact HO.out
        have hne : (((i : Int)) != (i : Int)) = false := by simp
        clear HO
        go_wp2
        go_roundw
        case rel => exact ⟨i + 1, by omega, by go_num, HO2.out, HB.out⟩
        case measure => simp [intOf]; omega
      · obtain ⟨b, off, rfl, c0, c1, c2, c3, c4⟩ := Cands.cells (HL.out.below HB.out) i hlt
        have HM : Hid (othZ l k (i + 1) = othZ l k i ++ [l[i]]) := othZ_more l k i hlt hik
        have hne : (((i : Int)) != (k : Int)) = true := by simp; omega
        obtain ⟨x, hx⟩ : ∃ x, l[i] = x := ⟨_, rfl⟩
        rw [hx] at c0 c1 c2 c3 c4 HM
        clear hx hik
        have hsz := HB.out.size
        have hfl : (othZ l k i).length + 1 ≤ 1000000 := by have := othZ_len l k i; omega
        go_wp2_with (at_builtin; go_must (refine wp_append_cand wr _ rfl rfl _ _ rfl w.heap.size u5 _ rfl HO.out x rfl hfl hsz ?_))
        intro v' w3 ho hb
        have HO3 : Hid (OwnC w3 w.heap.size v' (othZ l k (i + 1))) := by show OwnC _ _ _ _; rw [HM.out]; exact ho
        have HB3 : Hid (Below w.heap.size w w3) := HB.out.trans hb
        clear ho hb c0 c1 c2 c3 c4 HB HO HM
        go_wp2
        go_roundw
        case rel => exact ⟨i + 1, by omega, by go_num, HO3.out, HB3.out⟩
        case measure => simp [intOf]; omega
    · have hke : i = l.length := by omega
      subst hke
      have hnl : ¬ ((l.length : Int) < (l.length : Int)) := by omega
      go_wp2
      go_ret
      exact ⟨_, rfl, HO.out, HB.out⟩
/-- Elect of one of a list and of all others. -/
theorem OwnC.lies {w : World} {base n c : Nat} {a : Option Addr} {L : List CandZ} (h : OwnC w base (.slice a n c) L) : n = L.length ∧ Lies w a (cellsOf candC L) ∧ (a = none → c = 0) := by
  obtain ⟨a', c', e, h1, h2, -⟩ := OwnC.more h
  cases e
  exact ⟨rfl, h1, h2⟩
end Go.Proofs.Ytioimebfenklkaa
