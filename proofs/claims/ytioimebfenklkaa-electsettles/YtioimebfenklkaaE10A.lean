/- The document's example; two that claim to be designated. -/
import Derived.Test.YtioimebfenklkaaE10R
import Derived.Test.YtioimebfenklkaaE10T
namespace Go.Proofs.Ytioimebfenklkaa
open Go.RowKit
set_option linter.unusedVariables false

theorem example_z : electZ ⟨1, 9, 1, 0, 0⟩ [] = (9, 0) := by decide
theorem awake_any (w : World) : Calls Try.prog 9 #[] w fun e w' => e = .returned (.bool true) ∧ Below w.heap.size w w' := by
  have CE := elect_any ⟨1, 9, 1, 0, 0⟩ none 0 0 [] w rfl (.inl rfl) (by simp)
  unfold ElectEnd at CE
  rw [example_z] at CE
  go_enter Try.func9, Try.ntmps9
  go_wp2_with fail
  refine CE.mono ?_
  rintro e w1 ⟨rfl, hb⟩
  go_wp2
  go_ret
  exact ⟨rfl, hb⟩
def wantTwo (p q : Int) : Int := if p > q then 20 else 30
theorem two_z (p q x y : Int) (hp : 0 < p) (hq : 0 < q) (hy : 0 < y) : electZ ⟨x, 40, y, 20, 40⟩ [⟨10, 20, p, 20, 0⟩, ⟨11, 30, q, 30, 0⟩] = (wantTwo p q, 40) := by
  have hb : bdrZ (heardZ ⟨x, 40, y, 20, 40⟩ [⟨10, 20, p, 20, 0⟩, ⟨11, 30, q, 30, 0⟩]) = 40 := by
    refine bdr_bak (t := ⟨x, 40, y, 20, 40⟩) (by simp) ⟨hy, by simp, rfl⟩ fun z hz h => ?_
    simp at hz
    rcases hz with rfl | rfl | rfl
    · exact LeC.refl _
    · exact absurd rfl h.2.1
    · exact absurd rfl h.2.1
  have hd : drZ (heardZ ⟨x, 40, y, 20, 40⟩ [⟨10, 20, p, 20, 0⟩, ⟨11, 30, q, 30, 0⟩]) = wantTwo p q := by
    unfold wantTwo
    by_cases hpq : p > q
    · rw [if_pos hpq]
      refine dr_des (t := ⟨10, 20, p, 20, 0⟩) (by simp) ⟨hp, rfl⟩ fun z hz h => ?_
      simp at hz
      rcases hz with rfl | rfl | rfl
      · exact absurd h.2 (by simp)
      · exact LeC.refl _
      · exact .inl hpq
    · rw [if_neg hpq]
      refine dr_des (t := ⟨11, 30, q, 30, 0⟩) (by simp) ⟨hq, rfl⟩ fun z hz h => ?_
      simp at hz
      rcases hz with rfl | rfl | rfl
      · exact absurd h.2 (by simp)
      · unfold LeC; simp; omega
      · exact LeC.refl _
  unfold electZ
  rw [hb, hd]
  have : turnedZ ⟨x, 40, y, 20, 40⟩ (wantTwo p q) 40 = false := by
    unfold turnedZ wantTwo; split <;> rfl
  rw [this]; rfl
set_option maxHeartbeats 1600000 in
theorem electTwo_walk (p q x y : Int) (hp : 0 ≤ p ∧ p ≤ 255) (hq : 0 ≤ q ∧ q ≤ 255) (hx : 0 ≤ x ∧ x ≤ 255) (hy : 0 ≤ y ∧ y ≤ 255) (w : World) :
    Calls Try.prog 8 #[.int .u8 p, .int .u8 q, .int .u8 x, .int .u8 y] w fun e w' => e = .returned (.bool true) ∧ Below w.heap.size w w' := by
  have HZ : Hid (electZ ⟨1 + x % 5, 40, 1 + y % 5, 20, 40⟩ [⟨10, 20, 1 + p % 5, 20, 0⟩, ⟨11, 30, 1 + q % 5, 30, 0⟩] = (wantTwo (1 + p % 5) (1 + q % 5), 40)) := two_z _ _ _ _ (by omega) (by omega) (by omega)
  obtain ⟨h1, h2, h3⟩ := three_vars w (candC ⟨10, 20, 1 + p % 5, 20, 0⟩) (candC ⟨11, 30, 1 + q % 5, 30, 0⟩) (candC ⟨1 + x % 5, 40, 1 + y % 5, 20, 40⟩) 23 23 23
  have HA : Hid (Var _ _ _) := h1
  have HB : Hid (Var _ _ _) := h2
  have HS : Hid (Var _ _ _) := h3
  have HW : Hid (Below w.heap.size w (((w.alloc (.cells (candA ⟨10, 20, 1 + p % 5, 20, 0⟩) 23)).alloc (.cells (candA ⟨11, 30, 1 + q % 5, 30, 0⟩) 23)).alloc (.cells (candA ⟨1 + x % 5, 40, 1 + y % 5, 20, 40⟩) 23))) := ((below_new' _ _).alloc (by simp) _).alloc (by simp; omega) _
  clear h1 h2 h3
  go_enter Try.func8, Try.ntmps8
  go_upto_region 4 with fail
  simp only [candC] at HA HB HS
  generalize (((w.alloc (.cells #[.int .i64 10, .int .i64 20, .int .i64 (1 + p % 5), .int .i64 20, .int .i64 0] 23)).alloc (.cells #[.int .i64 11, .int .i64 30, .int .i64 (1 + q % 5), .int .i64 30, .int .i64 0] 23)).alloc (.cells #[.int .i64 (1 + x % 5), .int .i64 40, .int .i64 (1 + y % 5), .int .i64 20, .int .i64 40] 23)) = W at *
  generalize 1 + p % 5 = P at *
  generalize 1 + q % 5 = Q at *
  generalize 1 + x % 5 = X at *
  generalize 1 + y % 5 = Y at *
  have a0 := HA.out.cell 0 rfl
  have a1 := HA.out.cell 1 rfl
  have a2 := HA.out.cell 2 rfl
  have a3 := HA.out.cell 3 rfl
  have a4 := HA.out.cell 4 rfl
  have b0 := HB.out.cell 0 rfl
  have b1 := HB.out.cell 1 rfl
  have b2 := HB.out.cell 2 rfl
  have b3 := HB.out.cell 3 rfl
  have b4 := HB.out.cell 4 rfl
  have s0 := HS.out.cell 0 rfl
  have s1 := HS.out.cell 1 rfl
  have s2 := HS.out.cell 2 rfl
  have s3 := HS.out.cell 3 rfl
  have s4 := HS.out.cell 4 rfl
  have CE := fun N (hN : N = W.heap.size) => elect_any ⟨X, 40, Y, 20, 40⟩ (some ⟨N, 0, none⟩) 2 2 [⟨10, 20, P, 20, 0⟩, ⟨11, 30, Q, 30, 0⟩] (W.alloc (.cells (cellsOf candC [⟨10, 20, P, 20, 0⟩, ⟨11, 30, Q, 30, 0⟩]).toArray 23)) rfl (by subst hN; exact lies_new W _ _) (by simp)
  unfold ElectEnd at CE
  rw [HZ.out] at CE
  simp only [cellsOf, candC, List.flatMap_cons, List.flatMap_nil, List.cons_append, List.nil_append] at CE
  go_wp2_with fail
  refine (CE _ rfl).mono ?_
  rintro e w1 ⟨rfl, hb⟩
  have HB2 : Hid (Below W.heap.size W w1) := below_more (below_new' _ _) hb (by simp)
  have HW2 : Hid (Below w.heap.size w w1) := below_more HW.out HB2.out HW.out.size
  have HA2 := HA.out.below HB2.out HA.out.lt
  have HBB2 := HB.out.below HB2.out HB.out.lt
  clear a0 a1 a2 a3 a4 b0 b1 b2 b3 b4 s0 s1 s2 s3 s4 HA HB HS hb CE
  have a2 := HA2.cell 2 rfl
  have b2 := HBB2.cell 2 rfl
  by_cases hpq : P > Q
  · have hwt : wantTwo P Q = 20 := by unfold wantTwo; rw [if_pos hpq]
    rw [hwt]
    clear hwt
    go_wp2_with fail
    refine (awake_any _).mono ?_
    rintro e w2 ⟨rfl, hb⟩
    go_wp2
    go_ret
    exact ⟨rfl, below_more HW2.out hb HW2.out.size⟩
  · have hwt : wantTwo P Q = 30 := by unfold wantTwo; rw [if_neg hpq]
    rw [hwt]
    clear hwt
    go_wp2_with fail
    refine (awake_any _).mono ?_
    rintro e w2 ⟨rfl, hb⟩
    go_wp2
    go_ret
    exact ⟨rfl, below_more HW2.out hb HW2.out.size⟩
end Go.Proofs.Ytioimebfenklkaa
