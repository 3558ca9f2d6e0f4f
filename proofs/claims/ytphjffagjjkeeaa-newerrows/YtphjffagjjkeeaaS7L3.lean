/- By Seq and Sum it is an order: the walk of the law. -/
import Derived.Test.YtphjffagjjkeeaaS7W4
namespace Go.Proofs.Ytphjffagjjkeeaa
open Go.RowKit

set_option maxHeartbeats 6400000 in
theorem newerRows_walk (a0 a1 a2 a3 a4 a5 a6 b0 b1 b2 b3 b4 b5 b6 c0 c1 c2 c3 c4 c5 c6 : Int) (w : World) (ha : In64 a0) (hb : In64 b0) (hc : In64 c0) :
    Calls Try.prog 5 #[.agg #[.int .i64 a0, .int .i64 a1, .int .i64 a2, .int .i64 a3, .int .i64 a4, .int .i64 a5, .int .i64 a6], .agg #[.int .i64 b0, .int .i64 b1, .int .i64 b2, .int .i64 b3, .int .i64 b4, .int .i64 b5, .int .i64 b6], .agg #[.int .i64 c0, .int .i64 c1, .int .i64 c2, .int .i64 c3, .int .i64 c4, .int .i64 c5, .int .i64 c6]] w fun e w' => e = .returned (.bool true) ∧ Below w.heap.size w w' := by
  have Ia : Hid (In64 a0) := ha
  have Ib : Hid (In64 b0) := hb
  have Ic : Hid (In64 c0) := hc
  clear ha hb hc
  have Va : Hid (Var (((w.alloc (.cells #[.int .i64 a0, .int .i64 a1, .int .i64 a2, .int .i64 a3, .int .i64 a4, .int .i64 a5, .int .i64 a6] 23)).alloc (.cells #[.int .i64 b0, .int .i64 b1, .int .i64 b2, .int .i64 b3, .int .i64 b4, .int .i64 b5, .int .i64 b6] 23)).alloc (.cells #[.int .i64 c0, .int .i64 c1, .int .i64 c2, .int .i64 c3, .int .i64 c4, .int .i64 c5, .int .i64 c6] 23)) (w.heap.size) [.int .i64 a0, .int .i64 a1, .int .i64 a2, .int .i64 a3, .int .i64 a4, .int .i64 a5, .int .i64 a6]) := by
    have h0 := var_new w [.int .i64 a0, .int .i64 a1, .int .i64 a2, .int .i64 a3, .int .i64 a4, .int .i64 a5, .int .i64 a6] 23
    exact h0 |>.alloc _ |>.alloc _
  have Vb : Hid (Var (((w.alloc (.cells #[.int .i64 a0, .int .i64 a1, .int .i64 a2, .int .i64 a3, .int .i64 a4, .int .i64 a5, .int .i64 a6] 23)).alloc (.cells #[.int .i64 b0, .int .i64 b1, .int .i64 b2, .int .i64 b3, .int .i64 b4, .int .i64 b5, .int .i64 b6] 23)).alloc (.cells #[.int .i64 c0, .int .i64 c1, .int .i64 c2, .int .i64 c3, .int .i64 c4, .int .i64 c5, .int .i64 c6] 23)) (w.heap.size + 1) [.int .i64 b0, .int .i64 b1, .int .i64 b2, .int .i64 b3, .int .i64 b4, .int .i64 b5, .int .i64 b6]) := by
    have h0 := var_new (w.alloc (.cells #[.int .i64 a0, .int .i64 a1, .int .i64 a2, .int .i64 a3, .int .i64 a4, .int .i64 a5, .int .i64 a6] 23)) [.int .i64 b0, .int .i64 b1, .int .i64 b2, .int .i64 b3, .int .i64 b4, .int .i64 b5, .int .i64 b6] 23
    rw [size_new] at h0
    exact h0 |>.alloc _
  have Vc : Hid (Var (((w.alloc (.cells #[.int .i64 a0, .int .i64 a1, .int .i64 a2, .int .i64 a3, .int .i64 a4, .int .i64 a5, .int .i64 a6] 23)).alloc (.cells #[.int .i64 b0, .int .i64 b1, .int .i64 b2, .int .i64 b3, .int .i64 b4, .int .i64 b5, .int .i64 b6] 23)).alloc (.cells #[.int .i64 c0, .int .i64 c1, .int .i64 c2, .int .i64 c3, .int .i64 c4, .int .i64 c5, .int .i64 c6] 23)) (w.heap.size + 1 + 1) [.int .i64 c0, .int .i64 c1, .int .i64 c2, .int .i64 c3, .int .i64 c4, .int .i64 c5, .int .i64 c6]) := by
    have h0 := var_new ((w.alloc (.cells #[.int .i64 a0, .int .i64 a1, .int .i64 a2, .int .i64 a3, .int .i64 a4, .int .i64 a5, .int .i64 a6] 23)).alloc (.cells #[.int .i64 b0, .int .i64 b1, .int .i64 b2, .int .i64 b3, .int .i64 b4, .int .i64 b5, .int .i64 b6] 23)) [.int .i64 c0, .int .i64 c1, .int .i64 c2, .int .i64 c3, .int .i64 c4, .int .i64 c5, .int .i64 c6] 23
    rw [size_new, size_new] at h0
    exact h0
  have HB : Hid (Below w.heap.size w (((w.alloc (.cells #[.int .i64 a0, .int .i64 a1, .int .i64 a2, .int .i64 a3, .int .i64 a4, .int .i64 a5, .int .i64 a6] 23)).alloc (.cells #[.int .i64 b0, .int .i64 b1, .int .i64 b2, .int .i64 b3, .int .i64 b4, .int .i64 b5, .int .i64 b6] 23)).alloc (.cells #[.int .i64 c0, .int .i64 c1, .int .i64 c2, .int .i64 c3, .int .i64 c4, .int .i64 c5, .int .i64 c6] 23))) := (((below_new' _ _).alloc (by simp) _).alloc (by simp; omega) _)
  go_enter Try.func5, Try.ntmps5
  go_upto_region 1 with fail
  generalize (((w.alloc (.cells #[.int .i64 a0, .int .i64 a1, .int .i64 a2, .int .i64 a3, .int .i64 a4, .int .i64 a5, .int .i64 a6] 23)).alloc (.cells #[.int .i64 b0, .int .i64 b1, .int .i64 b2, .int .i64 b3, .int .i64 b4, .int .i64 b5, .int .i64 b6] 23)).alloc (.cells #[.int .i64 c0, .int .i64 c1, .int .i64 c2, .int .i64 c3, .int .i64 c4, .int .i64 c5, .int .i64 c6] 23)) = V at *
  have a0' := Va.out.cell 0 rfl
  have a1' := Va.out.cell 1 rfl
  have a2' := Va.out.cell 2 rfl
  have a3' := Va.out.cell 3 rfl
  have a4' := Va.out.cell 4 rfl
  have a5' := Va.out.cell 5 rfl
  have a6' := Va.out.cell 6 rfl
  have b0' := Vb.out.cell 0 rfl
  have b1' := Vb.out.cell 1 rfl
  have b2' := Vb.out.cell 2 rfl
  have b3' := Vb.out.cell 3 rfl
  have b4' := Vb.out.cell 4 rfl
  have b5' := Vb.out.cell 5 rfl
  have b6' := Vb.out.cell 6 rfl
  have c0' := Vc.out.cell 0 rfl
  have c1' := Vc.out.cell 1 rfl
  have c2' := Vc.out.cell 2 rfl
  have c3' := Vc.out.cell 3 rfl
  have c4' := Vc.out.cell 4 rfl
  have c5' := Vc.out.cell 5 rfl
  have c6' := Vc.out.cell 6 rfl
  have HV : Hid (Var V w.heap.size [.int .i64 a0, .int .i64 a1, .int .i64 a2, .int .i64 a3, .int .i64 a4, .int .i64 a5, .int .i64 a6] ∧ Var V (w.heap.size + 1) [.int .i64 b0, .int .i64 b1, .int .i64 b2, .int .i64 b3, .int .i64 b4, .int .i64 b5, .int .i64 b6] ∧ Var V (w.heap.size + 1 + 1) [.int .i64 c0, .int .i64 c1, .int .i64 c2, .int .i64 c3, .int .i64 c4, .int .i64 c5, .int .i64 c6]) := ⟨Va.out, Vb.out, Vc.out⟩
  by_cases h1 : a4 = b4 ∧ a5 = b5
  · obtain ⟨rfl, rfl⟩ := h1
    go_wp2_with fail
    refine (awake_any _).mono ?_
    rintro e w9 ⟨rfl, hb⟩
    go_wp2
    go_ret
    exact ⟨rfl, below_more HB.out hb HB.out.size⟩
  by_cases h2 : b4 = c4 ∧ b5 = c5
  · obtain ⟨rfl, rfl⟩ := h2
    cases q1 : (a4 == b4) <;> cases q2 : (a5 == b5)
    · go_wp2_with fail
      refine (awake_any _).mono ?_
      rintro e w9 ⟨rfl, hb⟩
      go_wp2
      go_ret
      exact ⟨rfl, below_more HB.out hb HB.out.size⟩
    · go_wp2_with fail
      refine (awake_any _).mono ?_
      rintro e w9 ⟨rfl, hb⟩
      go_wp2
      go_ret
      exact ⟨rfl, below_more HB.out hb HB.out.size⟩
    · go_wp2_with fail
      refine (awake_any _).mono ?_
      rintro e w9 ⟨rfl, hb⟩
      go_wp2
      go_ret
      exact ⟨rfl, below_more HB.out hb HB.out.size⟩
    · exact absurd ⟨by simpa using q1, by simpa using q2⟩ h1
  have HH : Hid (¬ (a4 = b4 ∧ a5 = b5) ∧ ¬ (b4 = c4 ∧ b5 = c5)) := ⟨h1, h2⟩
  have t1 := newI_three a0 a4 a5 b0 b4 b5
  have t2 := newI_three b0 b4 b5 c0 c4 c5
  cases q1 : (a4 == b4) <;> cases q2 : (a5 == b5)
  · cases q3 : (b4 == c4) <;> cases q4 : (b5 == c5)
    · clear h1 h2
      rcases t1 with t1 | t1 | t1
      · have N1 : Hid (newI a0 a4 a5 b0 b4 b5 = -1) := t1
        clear t1
        go_wp2_with fail
        refine (cmp_at _ _ _ _ _ _ _ _ _ _ _ _ _ _ _ N1.out Ia.out Ib.out _).mono ?_
        rintro e w1 ⟨rfl, hb⟩
        replace HB : Hid (Below w.heap.size w w1) := below_more HB.out hb HB.out.size
        replace HV : Hid (Var w1 w.heap.size [.int .i64 a0, .int .i64 a1, .int .i64 a2, .int .i64 a3, .int .i64 a4, .int .i64 a5, .int .i64 a6] ∧ Var w1 (w.heap.size + 1) [.int .i64 b0, .int .i64 b1, .int .i64 b2, .int .i64 b3, .int .i64 b4, .int .i64 b5, .int .i64 b6] ∧ Var w1 (w.heap.size + 1 + 1) [.int .i64 c0, .int .i64 c1, .int .i64 c2, .int .i64 c3, .int .i64 c4, .int .i64 c5, .int .i64 c6]) := ⟨HV.out.1.below hb HV.out.1.lt, HV.out.2.1.below hb HV.out.2.1.lt, HV.out.2.2.below hb HV.out.2.2.lt⟩
        clear a0' a1' a2' a3' a4' a5' a6' b0' b1' b2' b3' b4' b5' b6' c0' c1' c2' c3' c4' c5' c6' hb
        have a0' := HV.out.1.cell 0 rfl
        have a1' := HV.out.1.cell 1 rfl
        have a2' := HV.out.1.cell 2 rfl
        have a3' := HV.out.1.cell 3 rfl
        have a4' := HV.out.1.cell 4 rfl
        have a5' := HV.out.1.cell 5 rfl
        have a6' := HV.out.1.cell 6 rfl
        have b0' := HV.out.2.1.cell 0 rfl
        have b1' := HV.out.2.1.cell 1 rfl
        have b2' := HV.out.2.1.cell 2 rfl
        have b3' := HV.out.2.1.cell 3 rfl
        have b4' := HV.out.2.1.cell 4 rfl
        have b5' := HV.out.2.1.cell 5 rfl
        have b6' := HV.out.2.1.cell 6 rfl
        have c0' := HV.out.2.2.cell 0 rfl
        have c1' := HV.out.2.2.cell 1 rfl
        have c2' := HV.out.2.2.cell 2 rfl
        have c3' := HV.out.2.2.cell 3 rfl
        have c4' := HV.out.2.2.cell 4 rfl
        have c5' := HV.out.2.2.cell 5 rfl
        have c6' := HV.out.2.2.cell 6 rfl
        go_wp2_with fail
        refine (awake_any _).mono ?_
        rintro e w9 ⟨rfl, hb⟩
        go_wp2
        go_ret
        exact ⟨rfl, below_more HB.out hb HB.out.size⟩
      · have N1 : Hid (newI a0 a4 a5 b0 b4 b5 = 0) := t1
        clear t1
        go_wp2_with fail
        refine (cmp_at _ _ _ _ _ _ _ _ _ _ _ _ _ _ _ N1.out Ia.out Ib.out _).mono ?_
        rintro e w1 ⟨rfl, hb⟩
        replace HB : Hid (Below w.heap.size w w1) := below_more HB.out hb HB.out.size
        replace HV : Hid (Var w1 w.heap.size [.int .i64 a0, .int .i64 a1, .int .i64 a2, .int .i64 a3, .int .i64 a4, .int .i64 a5, .int .i64 a6] ∧ Var w1 (w.heap.size + 1) [.int .i64 b0, .int .i64 b1, .int .i64 b2, .int .i64 b3, .int .i64 b4, .int .i64 b5, .int .i64 b6] ∧ Var w1 (w.heap.size + 1 + 1) [.int .i64 c0, .int .i64 c1, .int .i64 c2, .int .i64 c3, .int .i64 c4, .int .i64 c5, .int .i64 c6]) := ⟨HV.out.1.below hb HV.out.1.lt, HV.out.2.1.below hb HV.out.2.1.lt, HV.out.2.2.below hb HV.out.2.2.lt⟩
        clear a0' a1' a2' a3' a4' a5' a6' b0' b1' b2' b3' b4' b5' b6' c0' c1' c2' c3' c4' c5' c6' hb
        have a0' := HV.out.1.cell 0 rfl
        have a1' := HV.out.1.cell 1 rfl
        have a2' := HV.out.1.cell 2 rfl
        have a3' := HV.out.1.cell 3 rfl
        have a4' := HV.out.1.cell 4 rfl
        have a5' := HV.out.1.cell 5 rfl
        have a6' := HV.out.1.cell 6 rfl
        have b0' := HV.out.2.1.cell 0 rfl
        have b1' := HV.out.2.1.cell 1 rfl
        have b2' := HV.out.2.1.cell 2 rfl
        have b3' := HV.out.2.1.cell 3 rfl
        have b4' := HV.out.2.1.cell 4 rfl
        have b5' := HV.out.2.1.cell 5 rfl
        have b6' := HV.out.2.1.cell 6 rfl
        have c0' := HV.out.2.2.cell 0 rfl
        have c1' := HV.out.2.2.cell 1 rfl
        have c2' := HV.out.2.2.cell 2 rfl
        have c3' := HV.out.2.2.cell 3 rfl
        have c4' := HV.out.2.2.cell 4 rfl
        have c5' := HV.out.2.2.cell 5 rfl
        have c6' := HV.out.2.2.cell 6 rfl
        go_wp2_with fail
        refine (awake_any _).mono ?_
        rintro e w9 ⟨rfl, hb⟩
        go_wp2
        go_ret
        exact ⟨rfl, below_more HB.out hb HB.out.size⟩
      · have N1 : Hid (newI a0 a4 a5 b0 b4 b5 = 1) := t1
        clear t1
        go_wp2_with fail
        refine (cmp_at _ _ _ _ _ _ _ _ _ _ _ _ _ _ _ N1.out Ia.out Ib.out _).mono ?_
        rintro e w1 ⟨rfl, hb⟩
        replace HB : Hid (Below w.heap.size w w1) := below_more HB.out hb HB.out.size
        replace HV : Hid (Var w1 w.heap.size [.int .i64 a0, .int .i64 a1, .int .i64 a2, .int .i64 a3, .int .i64 a4, .int .i64 a5, .int .i64 a6] ∧ Var w1 (w.heap.size + 1) [.int .i64 b0, .int .i64 b1, .int .i64 b2, .int .i64 b3, .int .i64 b4, .int .i64 b5, .int .i64 b6] ∧ Var w1 (w.heap.size + 1 + 1) [.int .i64 c0, .int .i64 c1, .int .i64 c2, .int .i64 c3, .int .i64 c4, .int .i64 c5, .int .i64 c6]) := ⟨HV.out.1.below hb HV.out.1.lt, HV.out.2.1.below hb HV.out.2.1.lt, HV.out.2.2.below hb HV.out.2.2.lt⟩
        clear a0' a1' a2' a3' a4' a5' a6' b0' b1' b2' b3' b4' b5' b6' c0' c1' c2' c3' c4' c5' c6' hb
        have a0' := HV.out.1.cell 0 rfl
        have a1' := HV.out.1.cell 1 rfl
        have a2' := HV.out.1.cell 2 rfl
        have a3' := HV.out.1.cell 3 rfl
        have a4' := HV.out.1.cell 4 rfl
        have a5' := HV.out.1.cell 5 rfl
        have a6' := HV.out.1.cell 6 rfl
        have b0' := HV.out.2.1.cell 0 rfl
        have b1' := HV.out.2.1.cell 1 rfl
        have b2' := HV.out.2.1.cell 2 rfl
        have b3' := HV.out.2.1.cell 3 rfl
        have b4' := HV.out.2.1.cell 4 rfl
        have b5' := HV.out.2.1.cell 5 rfl
        have b6' := HV.out.2.1.cell 6 rfl
        have c0' := HV.out.2.2.cell 0 rfl
        have c1' := HV.out.2.2.cell 1 rfl
        have c2' := HV.out.2.2.cell 2 rfl
        have c3' := HV.out.2.2.cell 3 rfl
        have c4' := HV.out.2.2.cell 4 rfl
        have c5' := HV.out.2.2.cell 5 rfl
        have c6' := HV.out.2.2.cell 6 rfl
        rcases t2 with t2 | t2 | t2
        · have N2 : Hid (newI b0 b4 b5 c0 c4 c5 = -1) := t2
          clear t2
          go_wp2_with fail
          refine (cmp_at _ _ _ _ _ _ _ _ _ _ _ _ _ _ _ N2.out Ib.out Ic.out _).mono ?_
          rintro e w2 ⟨rfl, hb⟩
          replace HB : Hid (Below w.heap.size w w2) := below_more HB.out hb HB.out.size
          replace HV : Hid (Var w2 w.heap.size [.int .i64 a0, .int .i64 a1, .int .i64 a2, .int .i64 a3, .int .i64 a4, .int .i64 a5, .int .i64 a6] ∧ Var w2 (w.heap.size + 1) [.int .i64 b0, .int .i64 b1, .int .i64 b2, .int .i64 b3, .int .i64 b4, .int .i64 b5, .int .i64 b6] ∧ Var w2 (w.heap.size + 1 + 1) [.int .i64 c0, .int .i64 c1, .int .i64 c2, .int .i64 c3, .int .i64 c4, .int .i64 c5, .int .i64 c6]) := ⟨HV.out.1.below hb HV.out.1.lt, HV.out.2.1.below hb HV.out.2.1.lt, HV.out.2.2.below hb HV.out.2.2.lt⟩
          clear a0' a1' a2' a3' a4' a5' a6' b0' b1' b2' b3' b4' b5' b6' c0' c1' c2' c3' c4' c5' c6' hb
          have a0' := HV.out.1.cell 0 rfl
          have a1' := HV.out.1.cell 1 rfl
          have a2' := HV.out.1.cell 2 rfl
          have a3' := HV.out.1.cell 3 rfl
          have a4' := HV.out.1.cell 4 rfl
          have a5' := HV.out.1.cell 5 rfl
          have a6' := HV.out.1.cell 6 rfl
          have b0' := HV.out.2.1.cell 0 rfl
          have b1' := HV.out.2.1.cell 1 rfl
          have b2' := HV.out.2.1.cell 2 rfl
          have b3' := HV.out.2.1.cell 3 rfl
          have b4' := HV.out.2.1.cell 4 rfl
          have b5' := HV.out.2.1.cell 5 rfl
          have b6' := HV.out.2.1.cell 6 rfl
          have c0' := HV.out.2.2.cell 0 rfl
          have c1' := HV.out.2.2.cell 1 rfl
          have c2' := HV.out.2.2.cell 2 rfl
          have c3' := HV.out.2.2.cell 3 rfl
          have c4' := HV.out.2.2.cell 4 rfl
          have c5' := HV.out.2.2.cell 5 rfl
          have c6' := HV.out.2.2.cell 6 rfl
          go_wp2_with fail
          refine (awake_any _).mono ?_
          rintro e w9 ⟨rfl, hb⟩
          go_wp2
          go_ret
          exact ⟨rfl, below_more HB.out hb HB.out.size⟩
        · have N2 : Hid (newI b0 b4 b5 c0 c4 c5 = 0) := t2
          clear t2
          go_wp2_with fail
          refine (cmp_at _ _ _ _ _ _ _ _ _ _ _ _ _ _ _ N2.out Ib.out Ic.out _).mono ?_
          rintro e w2 ⟨rfl, hb⟩
          replace HB : Hid (Below w.heap.size w w2) := below_more HB.out hb HB.out.size
          replace HV : Hid (Var w2 w.heap.size [.int .i64 a0, .int .i64 a1, .int .i64 a2, .int .i64 a3, .int .i64 a4, .int .i64 a5, .int .i64 a6] ∧ Var w2 (w.heap.size + 1) [.int .i64 b0, .int .i64 b1, .int .i64 b2, .int .i64 b3, .int .i64 b4, .int .i64 b5, .int .i64 b6] ∧ Var w2 (w.heap.size + 1 + 1) [.int .i64 c0, .int .i64 c1, .int .i64 c2, .int .i64 c3, .int .i64 c4, .int .i64 c5, .int .i64 c6]) := ⟨HV.out.1.below hb HV.out.1.lt, HV.out.2.1.below hb HV.out.2.1.lt, HV.out.2.2.below hb HV.out.2.2.lt⟩
          clear a0' a1' a2' a3' a4' a5' a6' b0' b1' b2' b3' b4' b5' b6' c0' c1' c2' c3' c4' c5' c6' hb
          have a0' := HV.out.1.cell 0 rfl
          have a1' := HV.out.1.cell 1 rfl
          have a2' := HV.out.1.cell 2 rfl
          have a3' := HV.out.1.cell 3 rfl
          have a4' := HV.out.1.cell 4 rfl
          have a5' := HV.out.1.cell 5 rfl
          have a6' := HV.out.1.cell 6 rfl
          have b0' := HV.out.2.1.cell 0 rfl
          have b1' := HV.out.2.1.cell 1 rfl
          have b2' := HV.out.2.1.cell 2 rfl
          have b3' := HV.out.2.1.cell 3 rfl
          have b4' := HV.out.2.1.cell 4 rfl
          have b5' := HV.out.2.1.cell 5 rfl
          have b6' := HV.out.2.1.cell 6 rfl
          have c0' := HV.out.2.2.cell 0 rfl
          have c1' := HV.out.2.2.cell 1 rfl
          have c2' := HV.out.2.2.cell 2 rfl
          have c3' := HV.out.2.2.cell 3 rfl
          have c4' := HV.out.2.2.cell 4 rfl
          have c5' := HV.out.2.2.cell 5 rfl
          have c6' := HV.out.2.2.cell 6 rfl
          go_wp2_with fail
          refine (awake_any _).mono ?_
          rintro e w9 ⟨rfl, hb⟩
          go_wp2
          go_ret
          exact ⟨rfl, below_more HB.out hb HB.out.size⟩
        · have N2 : Hid (newI b0 b4 b5 c0 c4 c5 = 1) := t2
          clear t2
          have N3 : Hid (newI a0 a4 a5 c0 c4 c5 = 1) := newI_rows HH.out.1 HH.out.2 (by rw [N1.out]; decide) (by rw [N2.out]; decide)
          go_wp2_with fail
          refine (cmp_at _ _ _ _ _ _ _ _ _ _ _ _ _ _ _ N2.out Ib.out Ic.out _).mono ?_
          rintro e w2 ⟨rfl, hb⟩
          replace HB : Hid (Below w.heap.size w w2) := below_more HB.out hb HB.out.size
          replace HV : Hid (Var w2 w.heap.size [.int .i64 a0, .int .i64 a1, .int .i64 a2, .int .i64 a3, .int .i64 a4, .int .i64 a5, .int .i64 a6] ∧ Var w2 (w.heap.size + 1) [.int .i64 b0, .int .i64 b1, .int .i64 b2, .int .i64 b3, .int .i64 b4, .int .i64 b5, .int .i64 b6] ∧ Var w2 (w.heap.size + 1 + 1) [.int .i64 c0, .int .i64 c1, .int .i64 c2, .int .i64 c3, .int .i64 c4, .int .i64 c5, .int .i64 c6]) := ⟨HV.out.1.below hb HV.out.1.lt, HV.out.2.1.below hb HV.out.2.1.lt, HV.out.2.2.below hb HV.out.2.2.lt⟩
          clear a0' a1' a2' a3' a4' a5' a6' b0' b1' b2' b3' b4' b5' b6' c0' c1' c2' c3' c4' c5' c6' hb
          have a0' := HV.out.1.cell 0 rfl
          have a1' := HV.out.1.cell 1 rfl
          have a2' := HV.out.1.cell 2 rfl
          have a3' := HV.out.1.cell 3 rfl
          have a4' := HV.out.1.cell 4 rfl
          have a5' := HV.out.1.cell 5 rfl
          have a6' := HV.out.1.cell 6 rfl
          have b0' := HV.out.2.1.cell 0 rfl
          have b1' := HV.out.2.1.cell 1 rfl
          have b2' := HV.out.2.1.cell 2 rfl
          have b3' := HV.out.2.1.cell 3 rfl
          have b4' := HV.out.2.1.cell 4 rfl
          have b5' := HV.out.2.1.cell 5 rfl
          have b6' := HV.out.2.1.cell 6 rfl
          have c0' := HV.out.2.2.cell 0 rfl
          have c1' := HV.out.2.2.cell 1 rfl
          have c2' := HV.out.2.2.cell 2 rfl
          have c3' := HV.out.2.2.cell 3 rfl
          have c4' := HV.out.2.2.cell 4 rfl
          have c5' := HV.out.2.2.cell 5 rfl
          have c6' := HV.out.2.2.cell 6 rfl
          go_wp2_with fail
          refine (cmp_at _ _ _ _ _ _ _ _ _ _ _ _ _ _ _ N3.out Ia.out Ic.out _).mono ?_
          rintro e w3 ⟨rfl, hb⟩
          replace HB : Hid (Below w.heap.size w w3) := below_more HB.out hb HB.out.size
          replace HV : Hid (Var w3 w.heap.size [.int .i64 a0, .int .i64 a1, .int .i64 a2, .int .i64 a3, .int .i64 a4, .int .i64 a5, .int .i64 a6] ∧ Var w3 (w.heap.size + 1) [.int .i64 b0, .int .i64 b1, .int .i64 b2, .int .i64 b3, .int .i64 b4, .int .i64 b5, .int .i64 b6] ∧ Var w3 (w.heap.size + 1 + 1) [.int .i64 c0, .int .i64 c1, .int .i64 c2, .int .i64 c3, .int .i64 c4, .int .i64 c5, .int .i64 c6]) := ⟨HV.out.1.below hb HV.out.1.lt, HV.out.2.1.below hb HV.out.2.1.lt, HV.out.2.2.below hb HV.out.2.2.lt⟩
          clear a0' a1' a2' a3' a4' a5' a6' b0' b1' b2' b3' b4' b5' b6' c0' c1' c2' c3' c4' c5' c6' hb
          have a0' := HV.out.1.cell 0 rfl
          have a1' := HV.out.1.cell 1 rfl
          have a2' := HV.out.1.cell 2 rfl
          have a3' := HV.out.1.cell 3 rfl
          have a4' := HV.out.1.cell 4 rfl
          have a5' := HV.out.1.cell 5 rfl
          have a6' := HV.out.1.cell 6 rfl
          have b0' := HV.out.2.1.cell 0 rfl
          have b1' := HV.out.2.1.cell 1 rfl
          have b2' := HV.out.2.1.cell 2 rfl
          have b3' := HV.out.2.1.cell 3 rfl
          have b4' := HV.out.2.1.cell 4 rfl
          have b5' := HV.out.2.1.cell 5 rfl
          have b6' := HV.out.2.1.cell 6 rfl
          have c0' := HV.out.2.2.cell 0 rfl
          have c1' := HV.out.2.2.cell 1 rfl
          have c2' := HV.out.2.2.cell 2 rfl
          have c3' := HV.out.2.2.cell 3 rfl
          have c4' := HV.out.2.2.cell 4 rfl
          have c5' := HV.out.2.2.cell 5 rfl
          have c6' := HV.out.2.2.cell 6 rfl
          go_wp2_with fail
          refine (awake_any _).mono ?_
          rintro e w9 ⟨rfl, hb⟩
          go_wp2
          go_ret
          exact ⟨rfl, below_more HB.out hb HB.out.size⟩
    · clear h1 h2
      rcases t1 with t1 | t1 | t1
      · have N1 : Hid (newI a0 a4 a5 b0 b4 b5 = -1) := t1
        clear t1
        go_wp2_with fail
        refine (cmp_at _ _ _ _ _ _ _ _ _ _ _ _ _ _ _ N1.out Ia.out Ib.out _).mono ?_
        rintro e w1 ⟨rfl, hb⟩
        replace HB : Hid (Below w.heap.size w w1) := below_more HB.out hb HB.out.size
        replace HV : Hid (Var w1 w.heap.size [.int .i64 a0, .int .i64 a1, .int .i64 a2, .int .i64 a3, .int .i64 a4, .int .i64 a5, .int .i64 a6] ∧ Var w1 (w.heap.size + 1) [.int .i64 b0, .int .i64 b1, .int .i64 b2, .int .i64 b3, .int .i64 b4, .int .i64 b5, .int .i64 b6] ∧ Var w1 (w.heap.size + 1 + 1) [.int .i64 c0, .int .i64 c1, .int .i64 c2, .int .i64 c3, .int .i64 c4, .int .i64 c5, .int .i64 c6]) := ⟨HV.out.1.below hb HV.out.1.lt, HV.out.2.1.below hb HV.out.2.1.lt, HV.out.2.2.below hb HV.out.2.2.lt⟩
        clear a0' a1' a2' a3' a4' a5' a6' b0' b1' b2' b3' b4' b5' b6' c0' c1' c2' c3' c4' c5' c6' hb
        have a0' := HV.out.1.cell 0 rfl
        have a1' := HV.out.1.cell 1 rfl
        have a2' := HV.out.1.cell 2 rfl
        have a3' := HV.out.1.cell 3 rfl
        have a4' := HV.out.1.cell 4 rfl
        have a5' := HV.out.1.cell 5 rfl
        have a6' := HV.out.1.cell 6 rfl
        have b0' := HV.out.2.1.cell 0 rfl
        have b1' := HV.out.2.1.cell 1 rfl
        have b2' := HV.out.2.1.cell 2 rfl
        have b3' := HV.out.2.1.cell 3 rfl
        have b4' := HV.out.2.1.cell 4 rfl
        have b5' := HV.out.2.1.cell 5 rfl
        have b6' := HV.out.2.1.cell 6 rfl
        have c0' := HV.out.2.2.cell 0 rfl
        have c1' := HV.out.2.2.cell 1 rfl
        have c2' := HV.out.2.2.cell 2 rfl
        have c3' := HV.out.2.2.cell 3 rfl
        have c4' := HV.out.2.2.cell 4 rfl
        have c5' := HV.out.2.2.cell 5 rfl
        have c6' := HV.out.2.2.cell 6 rfl
        go_wp2_with fail
        refine (awake_any _).mono ?_
        rintro e w9 ⟨rfl, hb⟩
        go_wp2
        go_ret
        exact ⟨rfl, below_more HB.out hb HB.out.size⟩
      · have N1 : Hid (newI a0 a4 a5 b0 b4 b5 = 0) := t1
        clear t1
        go_wp2_with fail
        refine (cmp_at _ _ _ _ _ _ _ _ _ _ _ _ _ _ _ N1.out Ia.out Ib.out _).mono ?_
        rintro e w1 ⟨rfl, hb⟩
        replace HB : Hid (Below w.heap.size w w1) := below_more HB.out hb HB.out.size
        replace HV : Hid (Var w1 w.heap.size [.int .i64 a0, .int .i64 a1, .int .i64 a2, .int .i64 a3, .int .i64 a4, .int .i64 a5, .int .i64 a6] ∧ Var w1 (w.heap.size + 1) [.int .i64 b0, .int .i64 b1, .int .i64 b2, .int .i64 b3, .int .i64 b4, .int .i64 b5, .int .i64 b6] ∧ Var w1 (w.heap.size + 1 + 1) [.int .i64 c0, .int .i64 c1, .int .i64 c2, .int .i64 c3, .int .i64 c4, .int .i64 c5, .int .i64 c6]) := ⟨HV.out.1.below hb HV.out.1.lt, HV.out.2.1.below hb HV.out.2.1.lt, HV.out.2.2.below hb HV.out.2.2.lt⟩
        clear a0' a1' a2' a3' a4' a5' a6' b0' b1' b2' b3' b4' b5' b6' c0' c1' c2' c3' c4' c5' c6' hb
        have a0' := HV.out.1.cell 0 rfl
        have a1' := HV.out.1.cell 1 rfl
        have a2' := HV.out.1.cell 2 rfl
        have a3' := HV.out.1.cell 3 rfl
        have a4' := HV.out.1.cell 4 rfl
        have a5' := HV.out.1.cell 5 rfl
        have a6' := HV.out.1.cell 6 rfl
        have b0' := HV.out.2.1.cell 0 rfl
        have b1' := HV.out.2.1.cell 1 rfl
        have b2' := HV.out.2.1.cell 2 rfl
        have b3' := HV.out.2.1.cell 3 rfl
        have b4' := HV.out.2.1.cell 4 rfl
        have b5' := HV.out.2.1.cell 5 rfl
        have b6' := HV.out.2.1.cell 6 rfl
        have c0' := HV.out.2.2.cell 0 rfl
        have c1' := HV.out.2.2.cell 1 rfl
        have c2' := HV.out.2.2.cell 2 rfl
        have c3' := HV.out.2.2.cell 3 rfl
        have c4' := HV.out.2.2.cell 4 rfl
        have c5' := HV.out.2.2.cell 5 rfl
        have c6' := HV.out.2.2.cell 6 rfl
        go_wp2_with fail
        refine (awake_any _).mono ?_
        rintro e w9 ⟨rfl, hb⟩
        go_wp2
        go_ret
        exact ⟨rfl, below_more HB.out hb HB.out.size⟩
      · have N1 : Hid (newI a0 a4 a5 b0 b4 b5 = 1) := t1
        clear t1
        go_wp2_with fail
        refine (cmp_at _ _ _ _ _ _ _ _ _ _ _ _ _ _ _ N1.out Ia.out Ib.out _).mono ?_
        rintro e w1 ⟨rfl, hb⟩
        replace HB : Hid (Below w.heap.size w w1) := below_more HB.out hb HB.out.size
        replace HV : Hid (Var w1 w.heap.size [.int .i64 a0, .int .i64 a1, .int .i64 a2, .int .i64 a3, .int .i64 a4, .int .i64 a5, .int .i64 a6] ∧ Var w1 (w.heap.size + 1) [.int .i64 b0, .int .i64 b1, .int .i64 b2, .int .i64 b3, .int .i64 b4, .int .i64 b5, .int .i64 b6] ∧ Var w1 (w.heap.size + 1 + 1) [.int .i64 c0, .int .i64 c1, .int .i64 c2, .int .i64 c3, .int .i64 c4, .int .i64 c5, .int .i64 c6]) := ⟨HV.out.1.below hb HV.out.1.lt, HV.out.2.1.below hb HV.out.2.1.lt, HV.out.2.2.below hb HV.out.2.2.lt⟩
        clear a0' a1' a2' a3' a4' a5' a6' b0' b1' b2' b3' b4' b5' b6' c0' c1' c2' c3' c4' c5' c6' hb
        have a0' := HV.out.1.cell 0 rfl
        have a1' := HV.out.1.cell 1 rfl
        have a2' := HV.out.1.cell 2 rfl
        have a3' := HV.out.1.cell 3 rfl
        have a4' := HV.out.1.cell 4 rfl
        have a5' := HV.out.1.cell 5 rfl
        have a6' := HV.out.1.cell 6 rfl
        have b0' := HV.out.2.1.cell 0 rfl
        have b1' := HV.out.2.1.cell 1 rfl
        have b2' := HV.out.2.1.cell 2 rfl
        have b3' := HV.out.2.1.cell 3 rfl
        have b4' := HV.out.2.1.cell 4 rfl
        have b5' := HV.out.2.1.cell 5 rfl
        have b6' := HV.out.2.1.cell 6 rfl
        have c0' := HV.out.2.2.cell 0 rfl
        have c1' := HV.out.2.2.cell 1 rfl
        have c2' := HV.out.2.2.cell 2 rfl
        have c3' := HV.out.2.2.cell 3 rfl
        have c4' := HV.out.2.2.cell 4 rfl
        have c5' := HV.out.2.2.cell 5 rfl
        have c6' := HV.out.2.2.cell 6 rfl
        rcases t2 with t2 | t2 | t2
        · have N2 : Hid (newI b0 b4 b5 c0 c4 c5 = -1) := t2
          clear t2
          go_wp2_with fail
          refine (cmp_at _ _ _ _ _ _ _ _ _ _ _ _ _ _ _ N2.out Ib.out Ic.out _).mono ?_
          rintro e w2 ⟨rfl, hb⟩
          replace HB : Hid (Below w.heap.size w w2) := below_more HB.out hb HB.out.size
          replace HV : Hid (Var w2 w.heap.size [.int .i64 a0, .int .i64 a1, .int .i64 a2, .int .i64 a3, .int .i64 a4, .int .i64 a5, .int .i64 a6] ∧ Var w2 (w.heap.size + 1) [.int .i64 b0, .int .i64 b1, .int .i64 b2, .int .i64 b3, .int .i64 b4, .int .i64 b5, .int .i64 b6] ∧ Var w2 (w.heap.size + 1 + 1) [.int .i64 c0, .int .i64 c1, .int .i64 c2, .int .i64 c3, .int .i64 c4, .int .i64 c5, .int .i64 c6]) := ⟨HV.out.1.below hb HV.out.1.lt, HV.out.2.1.below hb HV.out.2.1.lt, HV.out.2.2.below hb HV.out.2.2.lt⟩
          clear a0' a1' a2' a3' a4' a5' a6' b0' b1' b2' b3' b4' b5' b6' c0' c1' c2' c3' c4' c5' c6' hb
          have a0' := HV.out.1.cell 0 rfl
          have a1' := HV.out.1.cell 1 rfl
          have a2' := HV.out.1.cell 2 rfl
          have a3' := HV.out.1.cell 3 rfl
          have a4' := HV.out.1.cell 4 rfl
          have a5' := HV.out.1.cell 5 rfl
          have a6' := HV.out.1.cell 6 rfl
          have b0' := HV.out.2.1.cell 0 rfl
          have b1' := HV.out.2.1.cell 1 rfl
          have b2' := HV.out.2.1.cell 2 rfl
          have b3' := HV.out.2.1.cell 3 rfl
          have b4' := HV.out.2.1.cell 4 rfl
          have b5' := HV.out.2.1.cell 5 rfl
          have b6' := HV.out.2.1.cell 6 rfl
          have c0' := HV.out.2.2.cell 0 rfl
          have c1' := HV.out.2.2.cell 1 rfl
          have c2' := HV.out.2.2.cell 2 rfl
          have c3' := HV.out.2.2.cell 3 rfl
          have c4' := HV.out.2.2.cell 4 rfl
          have c5' := HV.out.2.2.cell 5 rfl
          have c6' := HV.out.2.2.cell 6 rfl
          go_wp2_with fail
          refine (awake_any _).mono ?_
          rintro e w9 ⟨rfl, hb⟩
          go_wp2
          go_ret
          exact ⟨rfl, below_more HB.out hb HB.out.size⟩
        · have N2 : Hid (newI b0 b4 b5 c0 c4 c5 = 0) := t2
          clear t2
          go_wp2_with fail
          refine (cmp_at _ _ _ _ _ _ _ _ _ _ _ _ _ _ _ N2.out Ib.out Ic.out _).mono ?_
          rintro e w2 ⟨rfl, hb⟩
          replace HB : Hid (Below w.heap.size w w2) := below_more HB.out hb HB.out.size
          replace HV : Hid (Var w2 w.heap.size [.int .i64 a0, .int .i64 a1, .int .i64 a2, .int .i64 a3, .int .i64 a4, .int .i64 a5, .int .i64 a6] ∧ Var w2 (w.heap.size + 1) [.int .i64 b0, .int .i64 b1, .int .i64 b2, .int .i64 b3, .int .i64 b4, .int .i64 b5, .int .i64 b6] ∧ Var w2 (w.heap.size + 1 + 1) [.int .i64 c0, .int .i64 c1, .int .i64 c2, .int .i64 c3, .int .i64 c4, .int .i64 c5, .int .i64 c6]) := ⟨HV.out.1.below hb HV.out.1.lt, HV.out.2.1.below hb HV.out.2.1.lt, HV.out.2.2.below hb HV.out.2.2.lt⟩
          clear a0' a1' a2' a3' a4' a5' a6' b0' b1' b2' b3' b4' b5' b6' c0' c1' c2' c3' c4' c5' c6' hb
          have a0' := HV.out.1.cell 0 rfl
          have a1' := HV.out.1.cell 1 rfl
          have a2' := HV.out.1.cell 2 rfl
          have a3' := HV.out.1.cell 3 rfl
          have a4' := HV.out.1.cell 4 rfl
          have a5' := HV.out.1.cell 5 rfl
          have a6' := HV.out.1.cell 6 rfl
          have b0' := HV.out.2.1.cell 0 rfl
          have b1' := HV.out.2.1.cell 1 rfl
          have b2' := HV.out.2.1.cell 2 rfl
          have b3' := HV.out.2.1.cell 3 rfl
          have b4' := HV.out.2.1.cell 4 rfl
          have b5' := HV.out.2.1.cell 5 rfl
          have b6' := HV.out.2.1.cell 6 rfl
          have c0' := HV.out.2.2.cell 0 rfl
          have c1' := HV.out.2.2.cell 1 rfl
          have c2' := HV.out.2.2.cell 2 rfl
          have c3' := HV.out.2.2.cell 3 rfl
          have c4' := HV.out.2.2.cell 4 rfl
          have c5' := HV.out.2.2.cell 5 rfl
          have c6' := HV.out.2.2.cell 6 rfl
          go_wp2_with fail
          refine (awake_any _).mono ?_
          rintro e w9 ⟨rfl, hb⟩
          go_wp2
          go_ret
          exact ⟨rfl, below_more HB.out hb HB.out.size⟩
        · have N2 : Hid (newI b0 b4 b5 c0 c4 c5 = 1) := t2
          clear t2
          have N3 : Hid (newI a0 a4 a5 c0 c4 c5 = 1) := newI_rows HH.out.1 HH.out.2 (by rw [N1.out]; decide) (by rw [N2.out]; decide)
          go_wp2_with fail
          refine (cmp_at _ _ _ _ _ _ _ _ _ _ _ _ _ _ _ N2.out Ib.out Ic.out _).mono ?_
          rintro e w2 ⟨rfl, hb⟩
          replace HB : Hid (Below w.heap.size w w2) := below_more HB.out hb HB.out.size
          replace HV : Hid (Var w2 w.heap.size [.int .i64 a0, .int .i64 a1, .int .i64 a2, .int .i64 a3, .int .i64 a4, .int .i64 a5, .int .i64 a6] ∧ Var w2 (w.heap.size + 1) [.int .i64 b0, .int .i64 b1, .int .i64 b2, .int .i64 b3, .int .i64 b4, .int .i64 b5, .int .i64 b6] ∧ Var w2 (w.heap.size + 1 + 1) [.int .i64 c0, .int .i64 c1, .int .i64 c2, .int .i64 c3, .int .i64 c4, .int .i64 c5, .int .i64 c6]) := ⟨HV.out.1.below hb HV.out.1.lt, HV.out.2.1.below hb HV.out.2.1.lt, HV.out.2.2.below hb HV.out.2.2.lt⟩
          clear a0' a1' a2' a3' a4' a5' a6' b0' b1' b2' b3' b4' b5' b6' c0' c1' c2' c3' c4' c5' c6' hb
          have a0' := HV.out.1.cell 0 rfl
          have a1' := HV.out.1.cell 1 rfl
          have a2' := HV.out.1.cell 2 rfl
          have a3' := HV.out.1.cell 3 rfl
          have a4' := HV.out.1.cell 4 rfl
          have a5' := HV.out.1.cell 5 rfl
          have a6' := HV.out.1.cell 6 rfl
          have b0' := HV.out.2.1.cell 0 rfl
          have b1' := HV.out.2.1.cell 1 rfl
          have b2' := HV.out.2.1.cell 2 rfl
          have b3' := HV.out.2.1.cell 3 rfl
          have b4' := HV.out.2.1.cell 4 rfl
          have b5' := HV.out.2.1.cell 5 rfl
          have b6' := HV.out.2.1.cell 6 rfl
          have c0' := HV.out.2.2.cell 0 rfl
          have c1' := HV.out.2.2.cell 1 rfl
          have c2' := HV.out.2.2.cell 2 rfl
          have c3' := HV.out.2.2.cell 3 rfl
          have c4' := HV.out.2.2.cell 4 rfl
          have c5' := HV.out.2.2.cell 5 rfl
          have c6' := HV.out.2.2.cell 6 rfl
          go_wp2_with fail
          refine (cmp_at _ _ _ _ _ _ _ _ _ _ _ _ _ _ _ N3.out Ia.out Ic.out _).mono ?_
          rintro e w3 ⟨rfl, hb⟩
          replace HB : Hid (Below w.heap.size w w3) := below_more HB.out hb HB.out.size
          replace HV : Hid (Var w3 w.heap.size [.int .i64 a0, .int .i64 a1, .int .i64 a2, .int .i64 a3, .int .i64 a4, .int .i64 a5, .int .i64 a6] ∧ Var w3 (w.heap.size + 1) [.int .i64 b0, .int .i64 b1, .int .i64 b2, .int .i64 b3, .int .i64 b4, .int .i64 b5, .int .i64 b6] ∧ Var w3 (w.heap.size + 1 + 1) [.int .i64 c0, .int .i64 c1, .int .i64 c2, .int .i64 c3, .int .i64 c4, .int .i64 c5, .int .i64 c6]) := ⟨HV.out.1.below hb HV.out.1.lt, HV.out.2.1.below hb HV.out.2.1.lt, HV.out.2.2.below hb HV.out.2.2.lt⟩
          clear a0' a1' a2' a3' a4' a5' a6' b0' b1' b2' b3' b4' b5' b6' c0' c1' c2' c3' c4' c5' c6' hb
          have a0' := HV.out.1.cell 0 rfl
          have a1' := HV.out.1.cell 1 rfl
          have a2' := HV.out.1.cell 2 rfl
          have a3' := HV.out.1.cell 3 rfl
          have a4' := HV.out.1.cell 4 rfl
          have a5' := HV.out.1.cell 5 rfl
          have a6' := HV.out.1.cell 6 rfl
          have b0' := HV.out.2.1.cell 0 rfl
          have b1' := HV.out.2.1.cell 1 rfl
          have b2' := HV.out.2.1.cell 2 rfl
          have b3' := HV.out.2.1.cell 3 rfl
          have b4' := HV.out.2.1.cell 4 rfl
          have b5' := HV.out.2.1.cell 5 rfl
          have b6' := HV.out.2.1.cell 6 rfl
          have c0' := HV.out.2.2.cell 0 rfl
          have c1' := HV.out.2.2.cell 1 rfl
          have c2' := HV.out.2.2.cell 2 rfl
          have c3' := HV.out.2.2.cell 3 rfl
          have c4' := HV.out.2.2.cell 4 rfl
          have c5' := HV.out.2.2.cell 5 rfl
          have c6' := HV.out.2.2.cell 6 rfl
          go_wp2_with fail
          refine (awake_any _).mono ?_
          rintro e w9 ⟨rfl, hb⟩
          go_wp2
          go_ret
          exact ⟨rfl, below_more HB.out hb HB.out.size⟩
    · clear h1 h2
      rcases t1 with t1 | t1 | t1
      · have N1 : Hid (newI a0 a4 a5 b0 b4 b5 = -1) := t1
        clear t1
        go_wp2_with fail
        refine (cmp_at _ _ _ _ _ _ _ _ _ _ _ _ _ _ _ N1.out Ia.out Ib.out _).mono ?_
        rintro e w1 ⟨rfl, hb⟩
        replace HB : Hid (Below w.heap.size w w1) := below_more HB.out hb HB.out.size
        replace HV : Hid (Var w1 w.heap.size [.int .i64 a0, .int .i64 a1, .int .i64 a2, .int .i64 a3, .int .i64 a4, .int .i64 a5, .int .i64 a6] ∧ Var w1 (w.heap.size + 1) [.int .i64 b0, .int .i64 b1, .int .i64 b2, .int .i64 b3, .int .i64 b4, .int .i64 b5, .int .i64 b6] ∧ Var w1 (w.heap.size + 1 + 1) [.int .i64 c0, .int .i64 c1, .int .i64 c2, .int .i64 c3, .int .i64 c4, .int .i64 c5, .int .i64 c6]) := ⟨HV.out.1.below hb HV.out.1.lt, HV.out.2.1.below hb HV.out.2.1.lt, HV.out.2.2.below hb HV.out.2.2.lt⟩
        clear a0' a1' a2' a3' a4' a5' a6' b0' b1' b2' b3' b4' b5' b6' c0' c1' c2' c3' c4' c5' c6' hb
        have a0' := HV.out.1.cell 0 rfl
        have a1' := HV.out.1.cell 1 rfl
        have a2' := HV.out.1.cell 2 rfl
        have a3' := HV.out.1.cell 3 rfl
        have a4' := HV.out.1.cell 4 rfl
        have a5' := HV.out.1.cell 5 rfl
        have a6' := HV.out.1.cell 6 rfl
        have b0' := HV.out.2.1.cell 0 rfl
        have b1' := HV.out.2.1.cell 1 rfl
        have b2' := HV.out.2.1.cell 2 rfl
        have b3' := HV.out.2.1.cell 3 rfl
        have b4' := HV.out.2.1.cell 4 rfl
        have b5' := HV.out.2.1.cell 5 rfl
        have b6' := HV.out.2.1.cell 6 rfl
        have c0' := HV.out.2.2.cell 0 rfl
        have c1' := HV.out.2.2.cell 1 rfl
        have c2' := HV.out.2.2.cell 2 rfl
        have c3' := HV.out.2.2.cell 3 rfl
        have c4' := HV.out.2.2.cell 4 rfl
        have c5' := HV.out.2.2.cell 5 rfl
        have c6' := HV.out.2.2.cell 6 rfl
        go_wp2_with fail
        refine (awake_any _).mono ?_
        rintro e w9 ⟨rfl, hb⟩
        go_wp2
        go_ret
        exact ⟨rfl, below_more HB.out hb HB.out.size⟩
      · have N1 : Hid (newI a0 a4 a5 b0 b4 b5 = 0) := t1
        clear t1
        go_wp2_with fail
        refine (cmp_at _ _ _ _ _ _ _ _ _ _ _ _ _ _ _ N1.out Ia.out Ib.out _).mono ?_
        rintro e w1 ⟨rfl, hb⟩
        replace HB : Hid (Below w.heap.size w w1) := below_more HB.out hb HB.out.size
        replace HV : Hid (Var w1 w.heap.size [.int .i64 a0, .int .i64 a1, .int .i64 a2, .int .i64 a3, .int .i64 a4, .int .i64 a5, .int .i64 a6] ∧ Var w1 (w.heap.size + 1) [.int .i64 b0, .int .i64 b1, .int .i64 b2, .int .i64 b3, .int .i64 b4, .int .i64 b5, .int .i64 b6] ∧ Var w1 (w.heap.size + 1 + 1) [.int .i64 c0, .int .i64 c1, .int .i64 c2, .int .i64 c3, .int .i64 c4, .int .i64 c5, .int .i64 c6]) := ⟨HV.out.1.below hb HV.out.1.lt, HV.out.2.1.below hb HV.out.2.1.lt, HV.out.2.2.below hb HV.out.2.2.lt⟩
        clear a0' a1' a2' a3' a4' a5' a6' b0' b1' b2' b3' b4' b5' b6' c0' c1' c2' c3' c4' c5' c6' hb
        have a0' := HV.out.1.cell 0 rfl
        have a1' := HV.out.1.cell 1 rfl
        have a2' := HV.out.1.cell 2 rfl
        have a3' := HV.out.1.cell 3 rfl
        have a4' := HV.out.1.cell 4 rfl
        have a5' := HV.out.1.cell 5 rfl
        have a6' := HV.out.1.cell 6 rfl
        have b0' := HV.out.2.1.cell 0 rfl
        have b1' := HV.out.2.1.cell 1 rfl
        have b2' := HV.out.2.1.cell 2 rfl
        have b3' := HV.out.2.1.cell 3 rfl
        have b4' := HV.out.2.1.cell 4 rfl
        have b5' := HV.out.2.1.cell 5 rfl
        have b6' := HV.out.2.1.cell 6 rfl
        have c0' := HV.out.2.2.cell 0 rfl
        have c1' := HV.out.2.2.cell 1 rfl
        have c2' := HV.out.2.2.cell 2 rfl
        have c3' := HV.out.2.2.cell 3 rfl
        have c4' := HV.out.2.2.cell 4 rfl
        have c5' := HV.out.2.2.cell 5 rfl
        have c6' := HV.out.2.2.cell 6 rfl
        go_wp2_with fail
        refine (awake_any _).mono ?_
        rintro e w9 ⟨rfl, hb⟩
        go_wp2
        go_ret
        exact ⟨rfl, below_more HB.out hb HB.out.size⟩
      · have N1 : Hid (newI a0 a4 a5 b0 b4 b5 = 1) := t1
        clear t1
        go_wp2_with fail
        refine (cmp_at _ _ _ _ _ _ _ _ _ _ _ _ _ _ _ N1.out Ia.out Ib.out _).mono ?_
        rintro e w1 ⟨rfl, hb⟩
        replace HB : Hid (Below w.heap.size w w1) := below_more HB.out hb HB.out.size
        replace HV : Hid (Var w1 w.heap.size [.int .i64 a0, .int .i64 a1, .int .i64 a2, .int .i64 a3, .int .i64 a4, .int .i64 a5, .int .i64 a6] ∧ Var w1 (w.heap.size + 1) [.int .i64 b0, .int .i64 b1, .int .i64 b2, .int .i64 b3, .int .i64 b4, .int .i64 b5, .int .i64 b6] ∧ Var w1 (w.heap.size + 1 + 1) [.int .i64 c0, .int .i64 c1, .int .i64 c2, .int .i64 c3, .int .i64 c4, .int .i64 c5, .int .i64 c6]) := ⟨HV.out.1.below hb HV.out.1.lt, HV.out.2.1.below hb HV.out.2.1.lt, HV.out.2.2.below hb HV.out.2.2.lt⟩
        clear a0' a1' a2' a3' a4' a5' a6' b0' b1' b2' b3' b4' b5' b6' c0' c1' c2' c3' c4' c5' c6' hb
        have a0' := HV.out.1.cell 0 rfl
        have a1' := HV.out.1.cell 1 rfl
        have a2' := HV.out.1.cell 2 rfl
        have a3' := HV.out.1.cell 3 rfl
        have a4' := HV.out.1.cell 4 rfl
        have a5' := HV.out.1.cell 5 rfl
        have a6' := HV.out.1.cell 6 rfl
        have b0' := HV.out.2.1.cell 0 rfl
        have b1' := HV.out.2.1.cell 1 rfl
        have b2' := HV.out.2.1.cell 2 rfl
        have b3' := HV.out.2.1.cell 3 rfl
        have b4' := HV.out.2.1.cell 4 rfl
        have b5' := HV.out.2.1.cell 5 rfl
        have b6' := HV.out.2.1.cell 6 rfl
        have c0' := HV.out.2.2.cell 0 rfl
        have c1' := HV.out.2.2.cell 1 rfl
        have c2' := HV.out.2.2.cell 2 rfl
        have c3' := HV.out.2.2.cell 3 rfl
        have c4' := HV.out.2.2.cell 4 rfl
        have c5' := HV.out.2.2.cell 5 rfl
        have c6' := HV.out.2.2.cell 6 rfl
        rcases t2 with t2 | t2 | t2
        · have N2 : Hid (newI b0 b4 b5 c0 c4 c5 = -1) := t2
          clear t2
          go_wp2_with fail
          refine (cmp_at _ _ _ _ _ _ _ _ _ _ _ _ _ _ _ N2.out Ib.out Ic.out _).mono ?_
          rintro e w2 ⟨rfl, hb⟩
          replace HB : Hid (Below w.heap.size w w2) := below_more HB.out hb HB.out.size
          replace HV : Hid (Var w2 w.heap.size [.int .i64 a0, .int .i64 a1, .int .i64 a2, .int .i64 a3, .int .i64 a4, .int .i64 a5, .int .i64 a6] ∧ Var w2 (w.heap.size + 1) [.int .i64 b0, .int .i64 b1, .int .i64 b2, .int .i64 b3, .int .i64 b4, .int .i64 b5, .int .i64 b6] ∧ Var w2 (w.heap.size + 1 + 1) [.int .i64 c0, .int .i64 c1, .int .i64 c2, .int .i64 c3, .int .i64 c4, .int .i64 c5, .int .i64 c6]) := ⟨HV.out.1.below hb HV.out.1.lt, HV.out.2.1.below hb HV.out.2.1.lt, HV.out.2.2.below hb HV.out.2.2.lt⟩
          clear a0' a1' a2' a3' a4' a5' a6' b0' b1' b2' b3' b4' b5' b6' c0' c1' c2' c3' c4' c5' c6' hb
          have a0' := HV.out.1.cell 0 rfl
          have a1' := HV.out.1.cell 1 rfl
          have a2' := HV.out.1.cell 2 rfl
          have a3' := HV.out.1.cell 3 rfl
          have a4' := HV.out.1.cell 4 rfl
          have a5' := HV.out.1.cell 5 rfl
          have a6' := HV.out.1.cell 6 rfl
          have b0' := HV.out.2.1.cell 0 rfl
          have b1' := HV.out.2.1.cell 1 rfl
          have b2' := HV.out.2.1.cell 2 rfl
          have b3' := HV.out.2.1.cell 3 rfl
          have b4' := HV.out.2.1.cell 4 rfl
          have b5' := HV.out.2.1.cell 5 rfl
          have b6' := HV.out.2.1.cell 6 rfl
          have c0' := HV.out.2.2.cell 0 rfl
          have c1' := HV.out.2.2.cell 1 rfl
          have c2' := HV.out.2.2.cell 2 rfl
          have c3' := HV.out.2.2.cell 3 rfl
          have c4' := HV.out.2.2.cell 4 rfl
          have c5' := HV.out.2.2.cell 5 rfl
          have c6' := HV.out.2.2.cell 6 rfl
          go_wp2_with fail
          refine (awake_any _).mono ?_
          rintro e w9 ⟨rfl, hb⟩
          go_wp2
          go_ret
          exact ⟨rfl, below_more HB.out hb HB.out.size⟩
        · have N2 : Hid (newI b0 b4 b5 c0 c4 c5 = 0) := t2
          clear t2
          go_wp2_with fail
          refine (cmp_at _ _ _ _ _ _ _ _ _ _ _ _ _ _ _ N2.out Ib.out Ic.out _).mono ?_
          rintro e w2 ⟨rfl, hb⟩
          replace HB : Hid (Below w.heap.size w w2) := below_more HB.out hb HB.out.size
          replace HV : Hid (Var w2 w.heap.size [.int .i64 a0, .int .i64 a1, .int .i64 a2, .int .i64 a3, .int .i64 a4, .int .i64 a5, .int .i64 a6] ∧ Var w2 (w.heap.size + 1) [.int .i64 b0, .int .i64 b1, .int .i64 b2, .int .i64 b3, .int .i64 b4, .int .i64 b5, .int .i64 b6] ∧ Var w2 (w.heap.size + 1 + 1) [.int .i64 c0, .int .i64 c1, .int .i64 c2, .int .i64 c3, .int .i64 c4, .int .i64 c5, .int .i64 c6]) := ⟨HV.out.1.below hb HV.out.1.lt, HV.out.2.1.below hb HV.out.2.1.lt, HV.out.2.2.below hb HV.out.2.2.lt⟩
          clear a0' a1' a2' a3' a4' a5' a6' b0' b1' b2' b3' b4' b5' b6' c0' c1' c2' c3' c4' c5' c6' hb
          have a0' := HV.out.1.cell 0 rfl
          have a1' := HV.out.1.cell 1 rfl
          have a2' := HV.out.1.cell 2 rfl
          have a3' := HV.out.1.cell 3 rfl
          have a4' := HV.out.1.cell 4 rfl
          have a5' := HV.out.1.cell 5 rfl
          have a6' := HV.out.1.cell 6 rfl
          have b0' := HV.out.2.1.cell 0 rfl
          have b1' := HV.out.2.1.cell 1 rfl
          have b2' := HV.out.2.1.cell 2 rfl
          have b3' := HV.out.2.1.cell 3 rfl
          have b4' := HV.out.2.1.cell 4 rfl
          have b5' := HV.out.2.1.cell 5 rfl
          have b6' := HV.out.2.1.cell 6 rfl
          have c0' := HV.out.2.2.cell 0 rfl
          have c1' := HV.out.2.2.cell 1 rfl
          have c2' := HV.out.2.2.cell 2 rfl
          have c3' := HV.out.2.2.cell 3 rfl
          have c4' := HV.out.2.2.cell 4 rfl
          have c5' := HV.out.2.2.cell 5 rfl
          have c6' := HV.out.2.2.cell 6 rfl
          go_wp2_with fail
          refine (awake_any _).mono ?_
          rintro e w9 ⟨rfl, hb⟩
          go_wp2
          go_ret
          exact ⟨rfl, below_more HB.out hb HB.out.size⟩
        · have N2 : Hid (newI b0 b4 b5 c0 c4 c5 = 1) := t2
          clear t2
          have N3 : Hid (newI a0 a4 a5 c0 c4 c5 = 1) := newI_rows HH.out.1 HH.out.2 (by rw [N1.out]; decide) (by rw [N2.out]; decide)
          go_wp2_with fail
          refine (cmp_at _ _ _ _ _ _ _ _ _ _ _ _ _ _ _ N2.out Ib.out Ic.out _).mono ?_
          rintro e w2 ⟨rfl, hb⟩
          replace HB : Hid (Below w.heap.size w w2) := below_more HB.out hb HB.out.size
          replace HV : Hid (Var w2 w.heap.size [.int .i64 a0, .int .i64 a1, .int .i64 a2, .int .i64 a3, .int .i64 a4, .int .i64 a5, .int .i64 a6] ∧ Var w2 (w.heap.size + 1) [.int .i64 b0, .int .i64 b1, .int .i64 b2, .int .i64 b3, .int .i64 b4, .int .i64 b5, .int .i64 b6] ∧ Var w2 (w.heap.size + 1 + 1) [.int .i64 c0, .int .i64 c1, .int .i64 c2, .int .i64 c3, .int .i64 c4, .int .i64 c5, .int .i64 c6]) := ⟨HV.out.1.below hb HV.out.1.lt, HV.out.2.1.below hb HV.out.2.1.lt, HV.out.2.2.below hb HV.out.2.2.lt⟩
          clear a0' a1' a2' a3' a4' a5' a6' b0' b1' b2' b3' b4' b5' b6' c0' c1' c2' c3' c4' c5' c6' hb
          have a0' := HV.out.1.cell 0 rfl
          have a1' := HV.out.1.cell 1 rfl
          have a2' := HV.out.1.cell 2 rfl
          have a3' := HV.out.1.cell 3 rfl
          have a4' := HV.out.1.cell 4 rfl
          have a5' := HV.out.1.cell 5 rfl
          have a6' := HV.out.1.cell 6 rfl
          have b0' := HV.out.2.1.cell 0 rfl
          have b1' := HV.out.2.1.cell 1 rfl
          have b2' := HV.out.2.1.cell 2 rfl
          have b3' := HV.out.2.1.cell 3 rfl
          have b4' := HV.out.2.1.cell 4 rfl
          have b5' := HV.out.2.1.cell 5 rfl
          have b6' := HV.out.2.1.cell 6 rfl
          have c0' := HV.out.2.2.cell 0 rfl
          have c1' := HV.out.2.2.cell 1 rfl
          have c2' := HV.out.2.2.cell 2 rfl
          have c3' := HV.out.2.2.cell 3 rfl
          have c4' := HV.out.2.2.cell 4 rfl
          have c5' := HV.out.2.2.cell 5 rfl
          have c6' := HV.out.2.2.cell 6 rfl
          go_wp2_with fail
          refine (cmp_at _ _ _ _ _ _ _ _ _ _ _ _ _ _ _ N3.out Ia.out Ic.out _).mono ?_
          rintro e w3 ⟨rfl, hb⟩
          replace HB : Hid (Below w.heap.size w w3) := below_more HB.out hb HB.out.size
          replace HV : Hid (Var w3 w.heap.size [.int .i64 a0, .int .i64 a1, .int .i64 a2, .int .i64 a3, .int .i64 a4, .int .i64 a5, .int .i64 a6] ∧ Var w3 (w.heap.size + 1) [.int .i64 b0, .int .i64 b1, .int .i64 b2, .int .i64 b3, .int .i64 b4, .int .i64 b5, .int .i64 b6] ∧ Var w3 (w.heap.size + 1 + 1) [.int .i64 c0, .int .i64 c1, .int .i64 c2, .int .i64 c3, .int .i64 c4, .int .i64 c5, .int .i64 c6]) := ⟨HV.out.1.below hb HV.out.1.lt, HV.out.2.1.below hb HV.out.2.1.lt, HV.out.2.2.below hb HV.out.2.2.lt⟩
          clear a0' a1' a2' a3' a4' a5' a6' b0' b1' b2' b3' b4' b5' b6' c0' c1' c2' c3' c4' c5' c6' hb
          have a0' := HV.out.1.cell 0 rfl
          have a1' := HV.out.1.cell 1 rfl
          have a2' := HV.out.1.cell 2 rfl
          have a3' := HV.out.1.cell 3 rfl
          have a4' := HV.out.1.cell 4 rfl
          have a5' := HV.out.1.cell 5 rfl
          have a6' := HV.out.1.cell 6 rfl
          have b0' := HV.out.2.1.cell 0 rfl
          have b1' := HV.out.2.1.cell 1 rfl
          have b2' := HV.out.2.1.cell 2 rfl
          have b3' := HV.out.2.1.cell 3 rfl
          have b4' := HV.out.2.1.cell 4 rfl
          have b5' := HV.out.2.1.cell 5 rfl
          have b6' := HV.out.2.1.cell 6 rfl
          have c0' := HV.out.2.2.cell 0 rfl
          have c1' := HV.out.2.2.cell 1 rfl
          have c2' := HV.out.2.2.cell 2 rfl
          have c3' := HV.out.2.2.cell 3 rfl
          have c4' := HV.out.2.2.cell 4 rfl
          have c5' := HV.out.2.2.cell 5 rfl
          have c6' := HV.out.2.2.cell 6 rfl
          go_wp2_with fail
          refine (awake_any _).mono ?_
          rintro e w9 ⟨rfl, hb⟩
          go_wp2
          go_ret
          exact ⟨rfl, below_more HB.out hb HB.out.size⟩
    · exact absurd ⟨by simpa using q3, by simpa using q4⟩ h2
  · cases q3 : (b4 == c4) <;> cases q4 : (b5 == c5)
    · clear h1 h2
      rcases t1 with t1 | t1 | t1
      · have N1 : Hid (newI a0 a4 a5 b0 b4 b5 = -1) := t1
        clear t1
        go_wp2_with fail
        refine (cmp_at _ _ _ _ _ _ _ _ _ _ _ _ _ _ _ N1.out Ia.out Ib.out _).mono ?_
        rintro e w1 ⟨rfl, hb⟩
        replace HB : Hid (Below w.heap.size w w1) := below_more HB.out hb HB.out.size
        replace HV : Hid (Var w1 w.heap.size [.int .i64 a0, .int .i64 a1, .int .i64 a2, .int .i64 a3, .int .i64 a4, .int .i64 a5, .int .i64 a6] ∧ Var w1 (w.heap.size + 1) [.int .i64 b0, .int .i64 b1, .int .i64 b2, .int .i64 b3, .int .i64 b4, .int .i64 b5, .int .i64 b6] ∧ Var w1 (w.heap.size + 1 + 1) [.int .i64 c0, .int .i64 c1, .int .i64 c2, .int .i64 c3, .int .i64 c4, .int .i64 c5, .int .i64 c6]) := ⟨HV.out.1.below hb HV.out.1.lt, HV.out.2.1.below hb HV.out.2.1.lt, HV.out.2.2.below hb HV.out.2.2.lt⟩
        clear a0' a1' a2' a3' a4' a5' a6' b0' b1' b2' b3' b4' b5' b6' c0' c1' c2' c3' c4' c5' c6' hb
        have a0' := HV.out.1.cell 0 rfl
        have a1' := HV.out.1.cell 1 rfl
        have a2' := HV.out.1.cell 2 rfl
        have a3' := HV.out.1.cell 3 rfl
        have a4' := HV.out.1.cell 4 rfl
        have a5' := HV.out.1.cell 5 rfl
        have a6' := HV.out.1.cell 6 rfl
        have b0' := HV.out.2.1.cell 0 rfl
        have b1' := HV.out.2.1.cell 1 rfl
        have b2' := HV.out.2.1.cell 2 rfl
        have b3' := HV.out.2.1.cell 3 rfl
        have b4' := HV.out.2.1.cell 4 rfl
        have b5' := HV.out.2.1.cell 5 rfl
        have b6' := HV.out.2.1.cell 6 rfl
        have c0' := HV.out.2.2.cell 0 rfl
        have c1' := HV.out.2.2.cell 1 rfl
        have c2' := HV.out.2.2.cell 2 rfl
        have c3' := HV.out.2.2.cell 3 rfl
        have c4' := HV.out.2.2.cell 4 rfl
        have c5' := HV.out.2.2.cell 5 rfl
        have c6' := HV.out.2.2.cell 6 rfl
        go_wp2_with fail
        refine (awake_any _).mono ?_
        rintro e w9 ⟨rfl, hb⟩
        go_wp2
        go_ret
        exact ⟨rfl, below_more HB.out hb HB.out.size⟩
      · have N1 : Hid (newI a0 a4 a5 b0 b4 b5 = 0) := t1
        clear t1
        go_wp2_with fail
        refine (cmp_at _ _ _ _ _ _ _ _ _ _ _ _ _ _ _ N1.out Ia.out Ib.out _).mono ?_
        rintro e w1 ⟨rfl, hb⟩
        replace HB : Hid (Below w.heap.size w w1) := below_more HB.out hb HB.out.size
        replace HV : Hid (Var w1 w.heap.size [.int .i64 a0, .int .i64 a1, .int .i64 a2, .int .i64 a3, .int .i64 a4, .int .i64 a5, .int .i64 a6] ∧ Var w1 (w.heap.size + 1) [.int .i64 b0, .int .i64 b1, .int .i64 b2, .int .i64 b3, .int .i64 b4, .int .i64 b5, .int .i64 b6] ∧ Var w1 (w.heap.size + 1 + 1) [.int .i64 c0, .int .i64 c1, .int .i64 c2, .int .i64 c3, .int .i64 c4, .int .i64 c5, .int .i64 c6]) := ⟨HV.out.1.below hb HV.out.1.lt, HV.out.2.1.below hb HV.out.2.1.lt, HV.out.2.2.below hb HV.out.2.2.lt⟩
        clear a0' a1' a2' a3' a4' a5' a6' b0' b1' b2' b3' b4' b5' b6' c0' c1' c2' c3' c4' c5' c6' hb
        have a0' := HV.out.1.cell 0 rfl
        have a1' := HV.out.1.cell 1 rfl
        have a2' := HV.out.1.cell 2 rfl
        have a3' := HV.out.1.cell 3 rfl
        have a4' := HV.out.1.cell 4 rfl
        have a5' := HV.out.1.cell 5 rfl
        have a6' := HV.out.1.cell 6 rfl
        have b0' := HV.out.2.1.cell 0 rfl
        have b1' := HV.out.2.1.cell 1 rfl
        have b2' := HV.out.2.1.cell 2 rfl
        have b3' := HV.out.2.1.cell 3 rfl
        have b4' := HV.out.2.1.cell 4 rfl
        have b5' := HV.out.2.1.cell 5 rfl
        have b6' := HV.out.2.1.cell 6 rfl
        have c0' := HV.out.2.2.cell 0 rfl
        have c1' := HV.out.2.2.cell 1 rfl
        have c2' := HV.out.2.2.cell 2 rfl
        have c3' := HV.out.2.2.cell 3 rfl
        have c4' := HV.out.2.2.cell 4 rfl
        have c5' := HV.out.2.2.cell 5 rfl
        have c6' := HV.out.2.2.cell 6 rfl
        go_wp2_with fail
        refine (awake_any _).mono ?_
        rintro e w9 ⟨rfl, hb⟩
        go_wp2
        go_ret
        exact ⟨rfl, below_more HB.out hb HB.out.size⟩
      · have N1 : Hid (newI a0 a4 a5 b0 b4 b5 = 1) := t1
        clear t1
        go_wp2_with fail
        refine (cmp_at _ _ _ _ _ _ _ _ _ _ _ _ _ _ _ N1.out Ia.out Ib.out _).mono ?_
        rintro e w1 ⟨rfl, hb⟩
        replace HB : Hid (Below w.heap.size w w1) := below_more HB.out hb HB.out.size
        replace HV : Hid (Var w1 w.heap.size [.int .i64 a0, .int .i64 a1, .int .i64 a2, .int .i64 a3, .int .i64 a4, .int .i64 a5, .int .i64 a6] ∧ Var w1 (w.heap.size + 1) [.int .i64 b0, .int .i64 b1, .int .i64 b2, .int .i64 b3, .int .i64 b4, .int .i64 b5, .int .i64 b6] ∧ Var w1 (w.heap.size + 1 + 1) [.int .i64 c0, .int .i64 c1, .int .i64 c2, .int .i64 c3, .int .i64 c4, .int .i64 c5, .int .i64 c6]) := ⟨HV.out.1.below hb HV.out.1.lt, HV.out.2.1.below hb HV.out.2.1.lt, HV.out.2.2.below hb HV.out.2.2.lt⟩
        clear a0' a1' a2' a3' a4' a5' a6' b0' b1' b2' b3' b4' b5' b6' c0' c1' c2' c3' c4' c5' c6' hb
        have a0' := HV.out.1.cell 0 rfl
        have a1' := HV.out.1.cell 1 rfl
        have a2' := HV.out.1.cell 2 rfl
        have a3' := HV.out.1.cell 3 rfl
        have a4' := HV.out.1.cell 4 rfl
        have a5' := HV.out.1.cell 5 rfl
        have a6' := HV.out.1.cell 6 rfl
        have b0' := HV.out.2.1.cell 0 rfl
        have b1' := HV.out.2.1.cell 1 rfl
        have b2' := HV.out.2.1.cell 2 rfl
        have b3' := HV.out.2.1.cell 3 rfl
        have b4' := HV.out.2.1.cell 4 rfl
        have b5' := HV.out.2.1.cell 5 rfl
        have b6' := HV.out.2.1.cell 6 rfl
        have c0' := HV.out.2.2.cell 0 rfl
        have c1' := HV.out.2.2.cell 1 rfl
        have c2' := HV.out.2.2.cell 2 rfl
        have c3' := HV.out.2.2.cell 3 rfl
        have c4' := HV.out.2.2.cell 4 rfl
        have c5' := HV.out.2.2.cell 5 rfl
        have c6' := HV.out.2.2.cell 6 rfl
        rcases t2 with t2 | t2 | t2
        · have N2 : Hid (newI b0 b4 b5 c0 c4 c5 = -1) := t2
          clear t2
          go_wp2_with fail
          refine (cmp_at _ _ _ _ _ _ _ _ _ _ _ _ _ _ _ N2.out Ib.out Ic.out _).mono ?_
          rintro e w2 ⟨rfl, hb⟩
          replace HB : Hid (Below w.heap.size w w2) := below_more HB.out hb HB.out.size
          replace HV : Hid (Var w2 w.heap.size [.int .i64 a0, .int .i64 a1, .int .i64 a2, .int .i64 a3, .int .i64 a4, .int .i64 a5, .int .i64 a6] ∧ Var w2 (w.heap.size + 1) [.int .i64 b0, .int .i64 b1, .int .i64 b2, .int .i64 b3, .int .i64 b4, .int .i64 b5, .int .i64 b6] ∧ Var w2 (w.heap.size + 1 + 1) [.int .i64 c0, .int .i64 c1, .int .i64 c2, .int .i64 c3, .int .i64 c4, .int .i64 c5, .int .i64 c6]) := ⟨HV.out.1.below hb HV.out.1.lt, HV.out.2.1.below hb HV.out.2.1.lt, HV.out.2.2.below hb HV.out.2.2.lt⟩
          clear a0' a1' a2' a3' a4' a5' a6' b0' b1' b2' b3' b4' b5' b6' c0' c1' c2' c3' c4' c5' c6' hb
          have a0' := HV.out.1.cell 0 rfl
          have a1' := HV.out.1.cell 1 rfl
          have a2' := HV.out.1.cell 2 rfl
          have a3' := HV.out.1.cell 3 rfl
          have a4' := HV.out.1.cell 4 rfl
          have a5' := HV.out.1.cell 5 rfl
          have a6' := HV.out.1.cell 6 rfl
          have b0' := HV.out.2.1.cell 0 rfl
          have b1' := HV.out.2.1.cell 1 rfl
          have b2' := HV.out.2.1.cell 2 rfl
          have b3' := HV.out.2.1.cell 3 rfl
          have b4' := HV.out.2.1.cell 4 rfl
          have b5' := HV.out.2.1.cell 5 rfl
          have b6' := HV.out.2.1.cell 6 rfl
          have c0' := HV.out.2.2.cell 0 rfl
          have c1' := HV.out.2.2.cell 1 rfl
          have c2' := HV.out.2.2.cell 2 rfl
          have c3' := HV.out.2.2.cell 3 rfl
          have c4' := HV.out.2.2.cell 4 rfl
          have c5' := HV.out.2.2.cell 5 rfl
          have c6' := HV.out.2.2.cell 6 rfl
          go_wp2_with fail
          refine (awake_any _).mono ?_
          rintro e w9 ⟨rfl, hb⟩
          go_wp2
          go_ret
          exact ⟨rfl, below_more HB.out hb HB.out.size⟩
        · have N2 : Hid (newI b0 b4 b5 c0 c4 c5 = 0) := t2
          clear t2
          go_wp2_with fail
          refine (cmp_at _ _ _ _ _ _ _ _ _ _ _ _ _ _ _ N2.out Ib.out Ic.out _).mono ?_
          rintro e w2 ⟨rfl, hb⟩
          replace HB : Hid (Below w.heap.size w w2) := below_more HB.out hb HB.out.size
          replace HV : Hid (Var w2 w.heap.size [.int .i64 a0, .int .i64 a1, .int .i64 a2, .int .i64 a3, .int .i64 a4, .int .i64 a5, .int .i64 a6] ∧ Var w2 (w.heap.size + 1) [.int .i64 b0, .int .i64 b1, .int .i64 b2, .int .i64 b3, .int .i64 b4, .int .i64 b5, .int .i64 b6] ∧ Var w2 (w.heap.size + 1 + 1) [.int .i64 c0, .int .i64 c1, .int .i64 c2, .int .i64 c3, .int .i64 c4, .int .i64 c5, .int .i64 c6]) := ⟨HV.out.1.below hb HV.out.1.lt, HV.out.2.1.below hb HV.out.2.1.lt, HV.out.2.2.below hb HV.out.2.2.lt⟩
          clear a0' a1' a2' a3' a4' a5' a6' b0' b1' b2' b3' b4' b5' b6' c0' c1' c2' c3' c4' c5' c6' hb
          have a0' := HV.out.1.cell 0 rfl
          have a1' := HV.out.1.cell 1 rfl
          have a2' := HV.out.1.cell 2 rfl
          have a3' := HV.out.1.cell 3 rfl
          have a4' := HV.out.1.cell 4 rfl
          have a5' := HV.out.1.cell 5 rfl
          have a6' := HV.out.1.cell 6 rfl
          have b0' := HV.out.2.1.cell 0 rfl
          have b1' := HV.out.2.1.cell 1 rfl
          have b2' := HV.out.2.1.cell 2 rfl
          have b3' := HV.out.2.1.cell 3 rfl
          have b4' := HV.out.2.1.cell 4 rfl
          have b5' := HV.out.2.1.cell 5 rfl
          have b6' := HV.out.2.1.cell 6 rfl
          have c0' := HV.out.2.2.cell 0 rfl
          have c1' := HV.out.2.2.cell 1 rfl
          have c2' := HV.out.2.2.cell 2 rfl
          have c3' := HV.out.2.2.cell 3 rfl
          have c4' := HV.out.2.2.cell 4 rfl
          have c5' := HV.out.2.2.cell 5 rfl
          have c6' := HV.out.2.2.cell 6 rfl
          go_wp2_with fail
          refine (awake_any _).mono ?_
          rintro e w9 ⟨rfl, hb⟩
          go_wp2
          go_ret
          exact ⟨rfl, below_more HB.out hb HB.out.size⟩
        · have N2 : Hid (newI b0 b4 b5 c0 c4 c5 = 1) := t2
          clear t2
          have N3 : Hid (newI a0 a4 a5 c0 c4 c5 = 1) := newI_rows HH.out.1 HH.out.2 (by rw [N1.out]; decide) (by rw [N2.out]; decide)
          go_wp2_with fail
          refine (cmp_at _ _ _ _ _ _ _ _ _ _ _ _ _ _ _ N2.out Ib.out Ic.out _).mono ?_
          rintro e w2 ⟨rfl, hb⟩
          replace HB : Hid (Below w.heap.size w w2) := below_more HB.out hb HB.out.size
          replace HV : Hid (Var w2 w.heap.size [.int .i64 a0, .int .i64 a1, .int .i64 a2, .int .i64 a3, .int .i64 a4, .int .i64 a5, .int .i64 a6] ∧ Var w2 (w.heap.size + 1) [.int .i64 b0, .int .i64 b1, .int .i64 b2, .int .i64 b3, .int .i64 b4, .int .i64 b5, .int .i64 b6] ∧ Var w2 (w.heap.size + 1 + 1) [.int .i64 c0, .int .i64 c1, .int .i64 c2, .int .i64 c3, .int .i64 c4, .int .i64 c5, .int .i64 c6]) := ⟨HV.out.1.below hb HV.out.1.lt, HV.out.2.1.below hb HV.out.2.1.lt, HV.out.2.2.below hb HV.out.2.2.lt⟩
          clear a0' a1' a2' a3' a4' a5' a6' b0' b1' b2' b3' b4' b5' b6' c0' c1' c2' c3' c4' c5' c6' hb
          have a0' := HV.out.1.cell 0 rfl
          have a1' := HV.out.1.cell 1 rfl
          have a2' := HV.out.1.cell 2 rfl
          have a3' := HV.out.1.cell 3 rfl
          have a4' := HV.out.1.cell 4 rfl
          have a5' := HV.out.1.cell 5 rfl
          have a6' := HV.out.1.cell 6 rfl
          have b0' := HV.out.2.1.cell 0 rfl
          have b1' := HV.out.2.1.cell 1 rfl
          have b2' := HV.out.2.1.cell 2 rfl
          have b3' := HV.out.2.1.cell 3 rfl
          have b4' := HV.out.2.1.cell 4 rfl
          have b5' := HV.out.2.1.cell 5 rfl
          have b6' := HV.out.2.1.cell 6 rfl
          have c0' := HV.out.2.2.cell 0 rfl
          have c1' := HV.out.2.2.cell 1 rfl
          have c2' := HV.out.2.2.cell 2 rfl
          have c3' := HV.out.2.2.cell 3 rfl
          have c4' := HV.out.2.2.cell 4 rfl
          have c5' := HV.out.2.2.cell 5 rfl
          have c6' := HV.out.2.2.cell 6 rfl
          go_wp2_with fail
          refine (cmp_at _ _ _ _ _ _ _ _ _ _ _ _ _ _ _ N3.out Ia.out Ic.out _).mono ?_
          rintro e w3 ⟨rfl, hb⟩
          replace HB : Hid (Below w.heap.size w w3) := below_more HB.out hb HB.out.size
          replace HV : Hid (Var w3 w.heap.size [.int .i64 a0, .int .i64 a1, .int .i64 a2, .int .i64 a3, .int .i64 a4, .int .i64 a5, .int .i64 a6] ∧ Var w3 (w.heap.size + 1) [.int .i64 b0, .int .i64 b1, .int .i64 b2, .int .i64 b3, .int .i64 b4, .int .i64 b5, .int .i64 b6] ∧ Var w3 (w.heap.size + 1 + 1) [.int .i64 c0, .int .i64 c1, .int .i64 c2, .int .i64 c3, .int .i64 c4, .int .i64 c5, .int .i64 c6]) := ⟨HV.out.1.below hb HV.out.1.lt, HV.out.2.1.below hb HV.out.2.1.lt, HV.out.2.2.below hb HV.out.2.2.lt⟩
          clear a0' a1' a2' a3' a4' a5' a6' b0' b1' b2' b3' b4' b5' b6' c0' c1' c2' c3' c4' c5' c6' hb
          have a0' := HV.out.1.cell 0 rfl
          have a1' := HV.out.1.cell 1 rfl
          have a2' := HV.out.1.cell 2 rfl
          have a3' := HV.out.1.cell 3 rfl
          have a4' := HV.out.1.cell 4 rfl
          have a5' := HV.out.1.cell 5 rfl
          have a6' := HV.out.1.cell 6 rfl
          have b0' := HV.out.2.1.cell 0 rfl
          have b1' := HV.out.2.1.cell 1 rfl
          have b2' := HV.out.2.1.cell 2 rfl
          have b3' := HV.out.2.1.cell 3 rfl
          have b4' := HV.out.2.1.cell 4 rfl
          have b5' := HV.out.2.1.cell 5 rfl
          have b6' := HV.out.2.1.cell 6 rfl
          have c0' := HV.out.2.2.cell 0 rfl
          have c1' := HV.out.2.2.cell 1 rfl
          have c2' := HV.out.2.2.cell 2 rfl
          have c3' := HV.out.2.2.cell 3 rfl
          have c4' := HV.out.2.2.cell 4 rfl
          have c5' := HV.out.2.2.cell 5 rfl
          have c6' := HV.out.2.2.cell 6 rfl
          go_wp2_with fail
          refine (awake_any _).mono ?_
          rintro e w9 ⟨rfl, hb⟩
          go_wp2
          go_ret
          exact ⟨rfl, below_more HB.out hb HB.out.size⟩
    · clear h1 h2
      rcases t1 with t1 | t1 | t1
      · have N1 : Hid (newI a0 a4 a5 b0 b4 b5 = -1) := t1
        clear t1
        go_wp2_with fail
        refine (cmp_at _ _ _ _ _ _ _ _ _ _ _ _ _ _ _ N1.out Ia.out Ib.out _).mono ?_
        rintro e w1 ⟨rfl, hb⟩
        replace HB : Hid (Below w.heap.size w w1) := below_more HB.out hb HB.out.size
        replace HV : Hid (Var w1 w.heap.size [.int .i64 a0, .int .i64 a1, .int .i64 a2, .int .i64 a3, .int .i64 a4, .int .i64 a5, .int .i64 a6] ∧ Var w1 (w.heap.size + 1) [.int .i64 b0, .int .i64 b1, .int .i64 b2, .int .i64 b3, .int .i64 b4, .int .i64 b5, .int .i64 b6] ∧ Var w1 (w.heap.size + 1 + 1) [.int .i64 c0, .int .i64 c1, .int .i64 c2, .int .i64 c3, .int .i64 c4, .int .i64 c5, .int .i64 c6]) := ⟨HV.out.1.below hb HV.out.1.lt, HV.out.2.1.below hb HV.out.2.1.lt, HV.out.2.2.below hb HV.out.2.2.lt⟩
        clear a0' a1' a2' a3' a4' a5' a6' b0' b1' b2' b3' b4' b5' b6' c0' c1' c2' c3' c4' c5' c6' hb
        have a0' := HV.out.1.cell 0 rfl
        have a1' := HV.out.1.cell 1 rfl
        have a2' := HV.out.1.cell 2 rfl
        have a3' := HV.out.1.cell 3 rfl
        have a4' := HV.out.1.cell 4 rfl
        have a5' := HV.out.1.cell 5 rfl
        have a6' := HV.out.1.cell 6 rfl
        have b0' := HV.out.2.1.cell 0 rfl
        have b1' := HV.out.2.1.cell 1 rfl
        have b2' := HV.out.2.1.cell 2 rfl
        have b3' := HV.out.2.1.cell 3 rfl
        have b4' := HV.out.2.1.cell 4 rfl
        have b5' := HV.out.2.1.cell 5 rfl
        have b6' := HV.out.2.1.cell 6 rfl
        have c0' := HV.out.2.2.cell 0 rfl
        have c1' := HV.out.2.2.cell 1 rfl
        have c2' := HV.out.2.2.cell 2 rfl
        have c3' := HV.out.2.2.cell 3 rfl
        have c4' := HV.out.2.2.cell 4 rfl
        have c5' := HV.out.2.2.cell 5 rfl
        have c6' := HV.out.2.2.cell 6 rfl
        go_wp2_with fail
        refine (awake_any _).mono ?_
        rintro e w9 ⟨rfl, hb⟩
        go_wp2
        go_ret
        exact ⟨rfl, below_more HB.out hb HB.out.size⟩
      · have N1 : Hid (newI a0 a4 a5 b0 b4 b5 = 0) := t1
        clear t1
        go_wp2_with fail
        refine (cmp_at _ _ _ _ _ _ _ _ _ _ _ _ _ _ _ N1.out Ia.out Ib.out _).mono ?_
        rintro e w1 ⟨rfl, hb⟩
        replace HB : Hid (Below w.heap.size w w1) := below_more HB.out hb HB.out.size
        replace HV : Hid (Var w1 w.heap.size [.int .i64 a0, .int .i64 a1, .int .i64 a2, .int .i64 a3, .int .i64 a4, .int .i64 a5, .int .i64 a6] ∧ Var w1 (w.heap.size + 1) [.int .i64 b0, .int .i64 b1, .int .i64 b2, .int .i64 b3, .int .i64 b4, .int .i64 b5, .int .i64 b6] ∧ Var w1 (w.heap.size + 1 + 1) [.int .i64 c0, .int .i64 c1, .int .i64 c2, .int .i64 c3, .int .i64 c4, .int .i64 c5, .int .i64 c6]) := ⟨HV.out.1.below hb HV.out.1.lt, HV.out.2.1.below hb HV.out.2.1.lt, HV.out.2.2.below hb HV.out.2.2.lt⟩
        clear a0' a1' a2' a3' a4' a5' a6' b0' b1' b2' b3' b4' b5' b6' c0' c1' c2' c3' c4' c5' c6' hb
        have a0' := HV.out.1.cell 0 rfl
        have a1' := HV.out.1.cell 1 rfl
        have a2' := HV.out.1.cell 2 rfl
        have a3' := HV.out.1.cell 3 rfl
        have a4' := HV.out.1.cell 4 rfl
        have a5' := HV.out.1.cell 5 rfl
        have a6' := HV.out.1.cell 6 rfl
        have b0' := HV.out.2.1.cell 0 rfl
        have b1' := HV.out.2.1.cell 1 rfl
        have b2' := HV.out.2.1.cell 2 rfl
        have b3' := HV.out.2.1.cell 3 rfl
        have b4' := HV.out.2.1.cell 4 rfl
        have b5' := HV.out.2.1.cell 5 rfl
        have b6' := HV.out.2.1.cell 6 rfl
        have c0' := HV.out.2.2.cell 0 rfl
        have c1' := HV.out.2.2.cell 1 rfl
        have c2' := HV.out.2.2.cell 2 rfl
        have c3' := HV.out.2.2.cell 3 rfl
        have c4' := HV.out.2.2.cell 4 rfl
        have c5' := HV.out.2.2.cell 5 rfl
        have c6' := HV.out.2.2.cell 6 rfl
        go_wp2_with fail
        refine (awake_any _).mono ?_
        rintro e w9 ⟨rfl, hb⟩
        go_wp2
        go_ret
        exact ⟨rfl, below_more HB.out hb HB.out.size⟩
      · have N1 : Hid (newI a0 a4 a5 b0 b4 b5 = 1) := t1
        clear t1
        go_wp2_with fail
        refine (cmp_at _ _ _ _ _ _ _ _ _ _ _ _ _ _ _ N1.out Ia.out Ib.out _).mono ?_
        rintro e w1 ⟨rfl, hb⟩
        replace HB : Hid (Below w.heap.size w w1) := below_more HB.out hb HB.out.size
        replace HV : Hid (Var w1 w.heap.size [.int .i64 a0, .int .i64 a1, .int .i64 a2, .int .i64 a3, .int .i64 a4, .int .i64 a5, .int .i64 a6] ∧ Var w1 (w.heap.size + 1) [.int .i64 b0, .int .i64 b1, .int .i64 b2, .int .i64 b3, .int .i64 b4, .int .i64 b5, .int .i64 b6] ∧ Var w1 (w.heap.size + 1 + 1) [.int .i64 c0, .int .i64 c1, .int .i64 c2, .int .i64 c3, .int .i64 c4, .int .i64 c5, .int .i64 c6]) := ⟨HV.out.1.below hb HV.out.1.lt, HV.out.2.1.below hb HV.out.2.1.lt, HV.out.2.2.below hb HV.out.2.2.lt⟩
        clear a0' a1' a2' a3' a4' a5' a6' b0' b1' b2' b3' b4' b5' b6' c0' c1' c2' c3' c4' c5' c6' hb
        have a0' := HV.out.1.cell 0 rfl
        have a1' := HV.out.1.cell 1 rfl
        have a2' := HV.out.1.cell 2 rfl
        have a3' := HV.out.1.cell 3 rfl
        have a4' := HV.out.1.cell 4 rfl
        have a5' := HV.out.1.cell 5 rfl
        have a6' := HV.out.1.cell 6 rfl
        have b0' := HV.out.2.1.cell 0 rfl
        have b1' := HV.out.2.1.cell 1 rfl
        have b2' := HV.out.2.1.cell 2 rfl
        have b3' := HV.out.2.1.cell 3 rfl
        have b4' := HV.out.2.1.cell 4 rfl
        have b5' := HV.out.2.1.cell 5 rfl
        have b6' := HV.out.2.1.cell 6 rfl
        have c0' := HV.out.2.2.cell 0 rfl
        have c1' := HV.out.2.2.cell 1 rfl
        have c2' := HV.out.2.2.cell 2 rfl
        have c3' := HV.out.2.2.cell 3 rfl
        have c4' := HV.out.2.2.cell 4 rfl
        have c5' := HV.out.2.2.cell 5 rfl
        have c6' := HV.out.2.2.cell 6 rfl
        rcases t2 with t2 | t2 | t2
        · have N2 : Hid (newI b0 b4 b5 c0 c4 c5 = -1) := t2
          clear t2
          go_wp2_with fail
          refine (cmp_at _ _ _ _ _ _ _ _ _ _ _ _ _ _ _ N2.out Ib.out Ic.out _).mono ?_
          rintro e w2 ⟨rfl, hb⟩
          replace HB : Hid (Below w.heap.size w w2) := below_more HB.out hb HB.out.size
          replace HV : Hid (Var w2 w.heap.size [.int .i64 a0, .int .i64 a1, .int .i64 a2, .int .i64 a3, .int .i64 a4, .int .i64 a5, .int .i64 a6] ∧ Var w2 (w.heap.size + 1) [.int .i64 b0, .int .i64 b1, .int .i64 b2, .int .i64 b3, .int .i64 b4, .int .i64 b5, .int .i64 b6] ∧ Var w2 (w.heap.size + 1 + 1) [.int .i64 c0, .int .i64 c1, .int .i64 c2, .int .i64 c3, .int .i64 c4, .int .i64 c5, .int .i64 c6]) := ⟨HV.out.1.below hb HV.out.1.lt, HV.out.2.1.below hb HV.out.2.1.lt, HV.out.2.2.below hb HV.out.2.2.lt⟩
          clear a0' a1' a2' a3' a4' a5' a6' b0' b1' b2' b3' b4' b5' b6' c0' c1' c2' c3' c4' c5' c6' hb
          have a0' := HV.out.1.cell 0 rfl
          have a1' := HV.out.1.cell 1 rfl
          have a2' := HV.out.1.cell 2 rfl
          have a3' := HV.out.1.cell 3 rfl
          have a4' := HV.out.1.cell 4 rfl
          have a5' := HV.out.1.cell 5 rfl
          have a6' := HV.out.1.cell 6 rfl
          have b0' := HV.out.2.1.cell 0 rfl
          have b1' := HV.out.2.1.cell 1 rfl
          have b2' := HV.out.2.1.cell 2 rfl
          have b3' := HV.out.2.1.cell 3 rfl
          have b4' := HV.out.2.1.cell 4 rfl
          have b5' := HV.out.2.1.cell 5 rfl
          have b6' := HV.out.2.1.cell 6 rfl
          have c0' := HV.out.2.2.cell 0 rfl
          have c1' := HV.out.2.2.cell 1 rfl
          have c2' := HV.out.2.2.cell 2 rfl
          have c3' := HV.out.2.2.cell 3 rfl
          have c4' := HV.out.2.2.cell 4 rfl
          have c5' := HV.out.2.2.cell 5 rfl
          have c6' := HV.out.2.2.cell 6 rfl
          go_wp2_with fail
          refine (awake_any _).mono ?_
          rintro e w9 ⟨rfl, hb⟩
          go_wp2
          go_ret
          exact ⟨rfl, below_more HB.out hb HB.out.size⟩
        · have N2 : Hid (newI b0 b4 b5 c0 c4 c5 = 0) := t2
          clear t2
          go_wp2_with fail
          refine (cmp_at _ _ _ _ _ _ _ _ _ _ _ _ _ _ _ N2.out Ib.out Ic.out _).mono ?_
          rintro e w2 ⟨rfl, hb⟩
          replace HB : Hid (Below w.heap.size w w2) := below_more HB.out hb HB.out.size
          replace HV : Hid (Var w2 w.heap.size [.int .i64 a0, .int .i64 a1, .int .i64 a2, .int .i64 a3, .int .i64 a4, .int .i64 a5, .int .i64 a6] ∧ Var w2 (w.heap.size + 1) [.int .i64 b0, .int .i64 b1, .int .i64 b2, .int .i64 b3, .int .i64 b4, .int .i64 b5, .int .i64 b6] ∧ Var w2 (w.heap.size + 1 + 1) [.int .i64 c0, .int .i64 c1, .int .i64 c2, .int .i64 c3, .int .i64 c4, .int .i64 c5, .int .i64 c6]) := ⟨HV.out.1.below hb HV.out.1.lt, HV.out.2.1.below hb HV.out.2.1.lt, HV.out.2.2.below hb HV.out.2.2.lt⟩
          clear a0' a1' a2' a3' a4' a5' a6' b0' b1' b2' b3' b4' b5' b6' c0' c1' c2' c3' c4' c5' c6' hb
          have a0' := HV.out.1.cell 0 rfl
          have a1' := HV.out.1.cell 1 rfl
          have a2' := HV.out.1.cell 2 rfl
          have a3' := HV.out.1.cell 3 rfl
          have a4' := HV.out.1.cell 4 rfl
          have a5' := HV.out.1.cell 5 rfl
          have a6' := HV.out.1.cell 6 rfl
          have b0' := HV.out.2.1.cell 0 rfl
          have b1' := HV.out.2.1.cell 1 rfl
          have b2' := HV.out.2.1.cell 2 rfl
          have b3' := HV.out.2.1.cell 3 rfl
          have b4' := HV.out.2.1.cell 4 rfl
          have b5' := HV.out.2.1.cell 5 rfl
          have b6' := HV.out.2.1.cell 6 rfl
          have c0' := HV.out.2.2.cell 0 rfl
          have c1' := HV.out.2.2.cell 1 rfl
          have c2' := HV.out.2.2.cell 2 rfl
          have c3' := HV.out.2.2.cell 3 rfl
          have c4' := HV.out.2.2.cell 4 rfl
          have c5' := HV.out.2.2.cell 5 rfl
          have c6' := HV.out.2.2.cell 6 rfl
          go_wp2_with fail
          refine (awake_any _).mono ?_
          rintro e w9 ⟨rfl, hb⟩
          go_wp2
          go_ret
          exact ⟨rfl, below_more HB.out hb HB.out.size⟩
        · have N2 : Hid (newI b0 b4 b5 c0 c4 c5 = 1) := t2
          clear t2
          have N3 : Hid (newI a0 a4 a5 c0 c4 c5 = 1) := newI_rows HH.out.1 HH.out.2 (by rw [N1.out]; decide) (by rw [N2.out]; decide)
          go_wp2_with fail
          refine (cmp_at _ _ _ _ _ _ _ _ _ _ _ _ _ _ _ N2.out Ib.out Ic.out _).mono ?_
          rintro e w2 ⟨rfl, hb⟩
          replace HB : Hid (Below w.heap.size w w2) := below_more HB.out hb HB.out.size
          replace HV : Hid (Var w2 w.heap.size [.int .i64 a0, .int .i64 a1, .int .i64 a2, .int .i64 a3, .int .i64 a4, .int .i64 a5, .int .i64 a6] ∧ Var w2 (w.heap.size + 1) [.int .i64 b0, .int .i64 b1, .int .i64 b2, .int .i64 b3, .int .i64 b4, .int .i64 b5, .int .i64 b6] ∧ Var w2 (w.heap.size + 1 + 1) [.int .i64 c0, .int .i64 c1, .int .i64 c2, .int .i64 c3, .int .i64 c4, .int .i64 c5, .int .i64 c6]) := ⟨HV.out.1.below hb HV.out.1.lt, HV.out.2.1.below hb HV.out.2.1.lt, HV.out.2.2.below hb HV.out.2.2.lt⟩
          clear a0' a1' a2' a3' a4' a5' a6' b0' b1' b2' b3' b4' b5' b6' c0' c1' c2' c3' c4' c5' c6' hb
          have a0' := HV.out.1.cell 0 rfl
          have a1' := HV.out.1.cell 1 rfl
          have a2' := HV.out.1.cell 2 rfl
          have a3' := HV.out.1.cell 3 rfl
          have a4' := HV.out.1.cell 4 rfl
          have a5' := HV.out.1.cell 5 rfl
          have a6' := HV.out.1.cell 6 rfl
          have b0' := HV.out.2.1.cell 0 rfl
          have b1' := HV.out.2.1.cell 1 rfl
          have b2' := HV.out.2.1.cell 2 rfl
          have b3' := HV.out.2.1.cell 3 rfl
          have b4' := HV.out.2.1.cell 4 rfl
          have b5' := HV.out.2.1.cell 5 rfl
          have b6' := HV.out.2.1.cell 6 rfl
          have c0' := HV.out.2.2.cell 0 rfl
          have c1' := HV.out.2.2.cell 1 rfl
          have c2' := HV.out.2.2.cell 2 rfl
          have c3' := HV.out.2.2.cell 3 rfl
          have c4' := HV.out.2.2.cell 4 rfl
          have c5' := HV.out.2.2.cell 5 rfl
          have c6' := HV.out.2.2.cell 6 rfl
          go_wp2_with fail
          refine (cmp_at _ _ _ _ _ _ _ _ _ _ _ _ _ _ _ N3.out Ia.out Ic.out _).mono ?_
          rintro e w3 ⟨rfl, hb⟩
          replace HB : Hid (Below w.heap.size w w3) := below_more HB.out hb HB.out.size
          replace HV : Hid (Var w3 w.heap.size [.int .i64 a0, .int .i64 a1, .int .i64 a2, .int .i64 a3, .int .i64 a4, .int .i64 a5, .int .i64 a6] ∧ Var w3 (w.heap.size + 1) [.int .i64 b0, .int .i64 b1, .int .i64 b2, .int .i64 b3, .int .i64 b4, .int .i64 b5, .int .i64 b6] ∧ Var w3 (w.heap.size + 1 + 1) [.int .i64 c0, .int .i64 c1, .int .i64 c2, .int .i64 c3, .int .i64 c4, .int .i64 c5, .int .i64 c6]) := ⟨HV.out.1.below hb HV.out.1.lt, HV.out.2.1.below hb HV.out.2.1.lt, HV.out.2.2.below hb HV.out.2.2.lt⟩
          clear a0' a1' a2' a3' a4' a5' a6' b0' b1' b2' b3' b4' b5' b6' c0' c1' c2' c3' c4' c5' c6' hb
          have a0' := HV.out.1.cell 0 rfl
          have a1' := HV.out.1.cell 1 rfl
          have a2' := HV.out.1.cell 2 rfl
          have a3' := HV.out.1.cell 3 rfl
          have a4' := HV.out.1.cell 4 rfl
          have a5' := HV.out.1.cell 5 rfl
          have a6' := HV.out.1.cell 6 rfl
          have b0' := HV.out.2.1.cell 0 rfl
          have b1' := HV.out.2.1.cell 1 rfl
          have b2' := HV.out.2.1.cell 2 rfl
          have b3' := HV.out.2.1.cell 3 rfl
          have b4' := HV.out.2.1.cell 4 rfl
          have b5' := HV.out.2.1.cell 5 rfl
          have b6' := HV.out.2.1.cell 6 rfl
          have c0' := HV.out.2.2.cell 0 rfl
          have c1' := HV.out.2.2.cell 1 rfl
          have c2' := HV.out.2.2.cell 2 rfl
          have c3' := HV.out.2.2.cell 3 rfl
          have c4' := HV.out.2.2.cell 4 rfl
          have c5' := HV.out.2.2.cell 5 rfl
          have c6' := HV.out.2.2.cell 6 rfl
          go_wp2_with fail
          refine (awake_any _).mono ?_
          rintro e w9 ⟨rfl, hb⟩
          go_wp2
          go_ret
          exact ⟨rfl, below_more HB.out hb HB.out.size⟩
    · clear h1 h2
      rcases t1 with t1 | t1 | t1
      · have N1 : Hid (newI a0 a4 a5 b0 b4 b5 = -1) := t1
        clear t1
        go_wp2_with fail
        refine (cmp_at _ _ _ _ _ _ _ _ _ _ _ _ _ _ _ N1.out Ia.out Ib.out _).mono ?_
        rintro e w1 ⟨rfl, hb⟩
        replace HB : Hid (Below w.heap.size w w1) := below_more HB.out hb HB.out.size
        replace HV : Hid (Var w1 w.heap.size [.int .i64 a0, .int .i64 a1, .int .i64 a2, .int .i64 a3, .int .i64 a4, .int .i64 a5, .int .i64 a6] ∧ Var w1 (w.heap.size + 1) [.int .i64 b0, .int .i64 b1, .int .i64 b2, .int .i64 b3, .int .i64 b4, .int .i64 b5, .int .i64 b6] ∧ Var w1 (w.heap.size + 1 + 1) [.int .i64 c0, .int .i64 c1, .int .i64 c2, .int .i64 c3, .int .i64 c4, .int .i64 c5, .int .i64 c6]) := ⟨HV.out.1.below hb HV.out.1.lt, HV.out.2.1.below hb HV.out.2.1.lt, HV.out.2.2.below hb HV.out.2.2.lt⟩
        clear a0' a1' a2' a3' a4' a5' a6' b0' b1' b2' b3' b4' b5' b6' c0' c1' c2' c3' c4' c5' c6' hb
        have a0' := HV.out.1.cell 0 rfl
        have a1' := HV.out.1.cell 1 rfl
        have a2' := HV.out.1.cell 2 rfl
        have a3' := HV.out.1.cell 3 rfl
        have a4' := HV.out.1.cell 4 rfl
        have a5' := HV.out.1.cell 5 rfl
        have a6' := HV.out.1.cell 6 rfl
        have b0' := HV.out.2.1.cell 0 rfl
        have b1' := HV.out.2.1.cell 1 rfl
        have b2' := HV.out.2.1.cell 2 rfl
        have b3' := HV.out.2.1.cell 3 rfl
        have b4' := HV.out.2.1.cell 4 rfl
        have b5' := HV.out.2.1.cell 5 rfl
        have b6' := HV.out.2.1.cell 6 rfl
        have c0' := HV.out.2.2.cell 0 rfl
        have c1' := HV.out.2.2.cell 1 rfl
        have c2' := HV.out.2.2.cell 2 rfl
        have c3' := HV.out.2.2.cell 3 rfl
        have c4' := HV.out.2.2.cell 4 rfl
        have c5' := HV.out.2.2.cell 5 rfl
        have c6' := HV.out.2.2.cell 6 rfl
        go_wp2_with fail
        refine (awake_any _).mono ?_
        rintro e w9 ⟨rfl, hb⟩
        go_wp2
        go_ret
        exact ⟨rfl, below_more HB.out hb HB.out.size⟩
      · have N1 : Hid (newI a0 a4 a5 b0 b4 b5 = 0) := t1
        clear t1
        go_wp2_with fail
        refine (cmp_at _ _ _ _ _ _ _ _ _ _ _ _ _ _ _ N1.out Ia.out Ib.out _).mono ?_
        rintro e w1 ⟨rfl, hb⟩
        replace HB : Hid (Below w.heap.size w w1) := below_more HB.out hb HB.out.size
        replace HV : Hid (Var w1 w.heap.size [.int .i64 a0, .int .i64 a1, .int .i64 a2, .int .i64 a3, .int .i64 a4, .int .i64 a5, .int .i64 a6] ∧ Var w1 (w.heap.size + 1) [.int .i64 b0, .int .i64 b1, .int .i64 b2, .int .i64 b3, .int .i64 b4, .int .i64 b5, .int .i64 b6] ∧ Var w1 (w.heap.size + 1 + 1) [.int .i64 c0, .int .i64 c1, .int .i64 c2, .int .i64 c3, .int .i64 c4, .int .i64 c5, .int .i64 c6]) := ⟨HV.out.1.below hb HV.out.1.lt, HV.out.2.1.below hb HV.out.2.1.lt, HV.out.2.2.below hb HV.out.2.2.lt⟩
        clear a0' a1' a2' a3' a4' a5' a6' b0' b1' b2' b3' b4' b5' b6' c0' c1' c2' c3' c4' c5' c6' hb
        have a0' := HV.out.1.cell 0 rfl
        have a1' := HV.out.1.cell 1 rfl
        have a2' := HV.out.1.cell 2 rfl
        have a3' := HV.out.1.cell 3 rfl
        have a4' := HV.out.1.cell 4 rfl
        have a5' := HV.out.1.cell 5 rfl
        have a6' := HV.out.1.cell 6 rfl
        have b0' := HV.out.2.1.cell 0 rfl
        have b1' := HV.out.2.1.cell 1 rfl
        have b2' := HV.out.2.1.cell 2 rfl
        have b3' := HV.out.2.1.cell 3 rfl
        have b4' := HV.out.2.1.cell 4 rfl
        have b5' := HV.out.2.1.cell 5 rfl
        have b6' := HV.out.2.1.cell 6 rfl
        have c0' := HV.out.2.2.cell 0 rfl
        have c1' := HV.out.2.2.cell 1 rfl
        have c2' := HV.out.2.2.cell 2 rfl
        have c3' := HV.out.2.2.cell 3 rfl
        have c4' := HV.out.2.2.cell 4 rfl
        have c5' := HV.out.2.2.cell 5 rfl
        have c6' := HV.out.2.2.cell 6 rfl
        go_wp2_with fail
        refine (awake_any _).mono ?_
        rintro e w9 ⟨rfl, hb⟩
        go_wp2
        go_ret
        exact ⟨rfl, below_more HB.out hb HB.out.size⟩
      · have N1 : Hid (newI a0 a4 a5 b0 b4 b5 = 1) := t1
        clear t1
        go_wp2_with fail
        refine (cmp_at _ _ _ _ _ _ _ _ _ _ _ _ _ _ _ N1.out Ia.out Ib.out _).mono ?_
        rintro e w1 ⟨rfl, hb⟩
        replace HB : Hid (Below w.heap.size w w1) := below_more HB.out hb HB.out.size
        replace HV : Hid (Var w1 w.heap.size [.int .i64 a0, .int .i64 a1, .int .i64 a2, .int .i64 a3, .int .i64 a4, .int .i64 a5, .int .i64 a6] ∧ Var w1 (w.heap.size + 1) [.int .i64 b0, .int .i64 b1, .int .i64 b2, .int .i64 b3, .int .i64 b4, .int .i64 b5, .int .i64 b6] ∧ Var w1 (w.heap.size + 1 + 1) [.int .i64 c0, .int .i64 c1, .int .i64 c2, .int .i64 c3, .int .i64 c4, .int .i64 c5, .int .i64 c6]) := ⟨HV.out.1.below hb HV.out.1.lt, HV.out.2.1.below hb HV.out.2.1.lt, HV.out.2.2.below hb HV.out.2.2.lt⟩
        clear a0' a1' a2' a3' a4' a5' a6' b0' b1' b2' b3' b4' b5' b6' c0' c1' c2' c3' c4' c5' c6' hb
        have a0' := HV.out.1.cell 0 rfl
        have a1' := HV.out.1.cell 1 rfl
        have a2' := HV.out.1.cell 2 rfl
        have a3' := HV.out.1.cell 3 rfl
        have a4' := HV.out.1.cell 4 rfl
        have a5' := HV.out.1.cell 5 rfl
        have a6' := HV.out.1.cell 6 rfl
        have b0' := HV.out.2.1.cell 0 rfl
        have b1' := HV.out.2.1.cell 1 rfl
        have b2' := HV.out.2.1.cell 2 rfl
        have b3' := HV.out.2.1.cell 3 rfl
        have b4' := HV.out.2.1.cell 4 rfl
        have b5' := HV.out.2.1.cell 5 rfl
        have b6' := HV.out.2.1.cell 6 rfl
        have c0' := HV.out.2.2.cell 0 rfl
        have c1' := HV.out.2.2.cell 1 rfl
        have c2' := HV.out.2.2.cell 2 rfl
        have c3' := HV.out.2.2.cell 3 rfl
        have c4' := HV.out.2.2.cell 4 rfl
        have c5' := HV.out.2.2.cell 5 rfl
        have c6' := HV.out.2.2.cell 6 rfl
        rcases t2 with t2 | t2 | t2
        · have N2 : Hid (newI b0 b4 b5 c0 c4 c5 = -1) := t2
          clear t2
          go_wp2_with fail
          refine (cmp_at _ _ _ _ _ _ _ _ _ _ _ _ _ _ _ N2.out Ib.out Ic.out _).mono ?_
          rintro e w2 ⟨rfl, hb⟩
          replace HB : Hid (Below w.heap.size w w2) := below_more HB.out hb HB.out.size
          replace HV : Hid (Var w2 w.heap.size [.int .i64 a0, .int .i64 a1, .int .i64 a2, .int .i64 a3, .int .i64 a4, .int .i64 a5, .int .i64 a6] ∧ Var w2 (w.heap.size + 1) [.int .i64 b0, .int .i64 b1, .int .i64 b2, .int .i64 b3, .int .i64 b4, .int .i64 b5, .int .i64 b6] ∧ Var w2 (w.heap.size + 1 + 1) [.int .i64 c0, .int .i64 c1, .int .i64 c2, .int .i64 c3, .int .i64 c4, .int .i64 c5, .int .i64 c6]) := ⟨HV.out.1.below hb HV.out.1.lt, HV.out.2.1.below hb HV.out.2.1.lt, HV.out.2.2.below hb HV.out.2.2.lt⟩
          clear a0' a1' a2' a3' a4' a5' a6' b0' b1' b2' b3' b4' b5' b6' c0' c1' c2' c3' c4' c5' c6' hb
          have a0' := HV.out.1.cell 0 rfl
          have a1' := HV.out.1.cell 1 rfl
          have a2' := HV.out.1.cell 2 rfl
          have a3' := HV.out.1.cell 3 rfl
          have a4' := HV.out.1.cell 4 rfl
          have a5' := HV.out.1.cell 5 rfl
          have a6' := HV.out.1.cell 6 rfl
          have b0' := HV.out.2.1.cell 0 rfl
          have b1' := HV.out.2.1.cell 1 rfl
          have b2' := HV.out.2.1.cell 2 rfl
          have b3' := HV.out.2.1.cell 3 rfl
          have b4' := HV.out.2.1.cell 4 rfl
          have b5' := HV.out.2.1.cell 5 rfl
          have b6' := HV.out.2.1.cell 6 rfl
          have c0' := HV.out.2.2.cell 0 rfl
          have c1' := HV.out.2.2.cell 1 rfl
          have c2' := HV.out.2.2.cell 2 rfl
          have c3' := HV.out.2.2.cell 3 rfl
          have c4' := HV.out.2.2.cell 4 rfl
          have c5' := HV.out.2.2.cell 5 rfl
          have c6' := HV.out.2.2.cell 6 rfl
          go_wp2_with fail
          refine (awake_any _).mono ?_
          rintro e w9 ⟨rfl, hb⟩
          go_wp2
          go_ret
          exact ⟨rfl, below_more HB.out hb HB.out.size⟩
        · have N2 : Hid (newI b0 b4 b5 c0 c4 c5 = 0) := t2
          clear t2
          go_wp2_with fail
          refine (cmp_at _ _ _ _ _ _ _ _ _ _ _ _ _ _ _ N2.out Ib.out Ic.out _).mono ?_
          rintro e w2 ⟨rfl, hb⟩
          replace HB : Hid (Below w.heap.size w w2) := below_more HB.out hb HB.out.size
          replace HV : Hid (Var w2 w.heap.size [.int .i64 a0, .int .i64 a1, .int .i64 a2, .int .i64 a3, .int .i64 a4, .int .i64 a5, .int .i64 a6] ∧ Var w2 (w.heap.size + 1) [.int .i64 b0, .int .i64 b1, .int .i64 b2, .int .i64 b3, .int .i64 b4, .int .i64 b5, .int .i64 b6] ∧ Var w2 (w.heap.size + 1 + 1) [.int .i64 c0, .int .i64 c1, .int .i64 c2, .int .i64 c3, .int .i64 c4, .int .i64 c5, .int .i64 c6]) := ⟨HV.out.1.below hb HV.out.1.lt, HV.out.2.1.below hb HV.out.2.1.lt, HV.out.2.2.below hb HV.out.2.2.lt⟩
          clear a0' a1' a2' a3' a4' a5' a6' b0' b1' b2' b3' b4' b5' b6' c0' c1' c2' c3' c4' c5' c6' hb
          have a0' := HV.out.1.cell 0 rfl
          have a1' := HV.out.1.cell 1 rfl
          have a2' := HV.out.1.cell 2 rfl
          have a3' := HV.out.1.cell 3 rfl
          have a4' := HV.out.1.cell 4 rfl
          have a5' := HV.out.1.cell 5 rfl
          have a6' := HV.out.1.cell 6 rfl
          have b0' := HV.out.2.1.cell 0 rfl
          have b1' := HV.out.2.1.cell 1 rfl
          have b2' := HV.out.2.1.cell 2 rfl
          have b3' := HV.out.2.1.cell 3 rfl
          have b4' := HV.out.2.1.cell 4 rfl
          have b5' := HV.out.2.1.cell 5 rfl
          have b6' := HV.out.2.1.cell 6 rfl
          have c0' := HV.out.2.2.cell 0 rfl
          have c1' := HV.out.2.2.cell 1 rfl
          have c2' := HV.out.2.2.cell 2 rfl
          have c3' := HV.out.2.2.cell 3 rfl
          have c4' := HV.out.2.2.cell 4 rfl
          have c5' := HV.out.2.2.cell 5 rfl
          have c6' := HV.out.2.2.cell 6 rfl
          go_wp2_with fail
          refine (awake_any _).mono ?_
          rintro e w9 ⟨rfl, hb⟩
          go_wp2
          go_ret
          exact ⟨rfl, below_more HB.out hb HB.out.size⟩
        · have N2 : Hid (newI b0 b4 b5 c0 c4 c5 = 1) := t2
          clear t2
          have N3 : Hid (newI a0 a4 a5 c0 c4 c5 = 1) := newI_rows HH.out.1 HH.out.2 (by rw [N1.out]; decide) (by rw [N2.out]; decide)
          go_wp2_with fail
          refine (cmp_at _ _ _ _ _ _ _ _ _ _ _ _ _ _ _ N2.out Ib.out Ic.out _).mono ?_
          rintro e w2 ⟨rfl, hb⟩
          replace HB : Hid (Below w.heap.size w w2) := below_more HB.out hb HB.out.size
          replace HV : Hid (Var w2 w.heap.size [.int .i64 a0, .int .i64 a1, .int .i64 a2, .int .i64 a3, .int .i64 a4, .int .i64 a5, .int .i64 a6] ∧ Var w2 (w.heap.size + 1) [.int .i64 b0, .int .i64 b1, .int .i64 b2, .int .i64 b3, .int .i64 b4, .int .i64 b5, .int .i64 b6] ∧ Var w2 (w.heap.size + 1 + 1) [.int .i64 c0, .int .i64 c1, .int .i64 c2, .int .i64 c3, .int .i64 c4, .int .i64 c5, .int .i64 c6]) := ⟨HV.out.1.below hb HV.out.1.lt, HV.out.2.1.below hb HV.out.2.1.lt, HV.out.2.2.below hb HV.out.2.2.lt⟩
          clear a0' a1' a2' a3' a4' a5' a6' b0' b1' b2' b3' b4' b5' b6' c0' c1' c2' c3' c4' c5' c6' hb
          have a0' := HV.out.1.cell 0 rfl
          have a1' := HV.out.1.cell 1 rfl
          have a2' := HV.out.1.cell 2 rfl
          have a3' := HV.out.1.cell 3 rfl
          have a4' := HV.out.1.cell 4 rfl
          have a5' := HV.out.1.cell 5 rfl
          have a6' := HV.out.1.cell 6 rfl
          have b0' := HV.out.2.1.cell 0 rfl
          have b1' := HV.out.2.1.cell 1 rfl
          have b2' := HV.out.2.1.cell 2 rfl
          have b3' := HV.out.2.1.cell 3 rfl
          have b4' := HV.out.2.1.cell 4 rfl
          have b5' := HV.out.2.1.cell 5 rfl
          have b6' := HV.out.2.1.cell 6 rfl
          have c0' := HV.out.2.2.cell 0 rfl
          have c1' := HV.out.2.2.cell 1 rfl
          have c2' := HV.out.2.2.cell 2 rfl
          have c3' := HV.out.2.2.cell 3 rfl
          have c4' := HV.out.2.2.cell 4 rfl
          have c5' := HV.out.2.2.cell 5 rfl
          have c6' := HV.out.2.2.cell 6 rfl
          go_wp2_with fail
          refine (cmp_at _ _ _ _ _ _ _ _ _ _ _ _ _ _ _ N3.out Ia.out Ic.out _).mono ?_
          rintro e w3 ⟨rfl, hb⟩
          replace HB : Hid (Below w.heap.size w w3) := below_more HB.out hb HB.out.size
          replace HV : Hid (Var w3 w.heap.size [.int .i64 a0, .int .i64 a1, .int .i64 a2, .int .i64 a3, .int .i64 a4, .int .i64 a5, .int .i64 a6] ∧ Var w3 (w.heap.size + 1) [.int .i64 b0, .int .i64 b1, .int .i64 b2, .int .i64 b3, .int .i64 b4, .int .i64 b5, .int .i64 b6] ∧ Var w3 (w.heap.size + 1 + 1) [.int .i64 c0, .int .i64 c1, .int .i64 c2, .int .i64 c3, .int .i64 c4, .int .i64 c5, .int .i64 c6]) := ⟨HV.out.1.below hb HV.out.1.lt, HV.out.2.1.below hb HV.out.2.1.lt, HV.out.2.2.below hb HV.out.2.2.lt⟩
          clear a0' a1' a2' a3' a4' a5' a6' b0' b1' b2' b3' b4' b5' b6' c0' c1' c2' c3' c4' c5' c6' hb
          have a0' := HV.out.1.cell 0 rfl
          have a1' := HV.out.1.cell 1 rfl
          have a2' := HV.out.1.cell 2 rfl
          have a3' := HV.out.1.cell 3 rfl
          have a4' := HV.out.1.cell 4 rfl
          have a5' := HV.out.1.cell 5 rfl
          have a6' := HV.out.1.cell 6 rfl
          have b0' := HV.out.2.1.cell 0 rfl
          have b1' := HV.out.2.1.cell 1 rfl
          have b2' := HV.out.2.1.cell 2 rfl
          have b3' := HV.out.2.1.cell 3 rfl
          have b4' := HV.out.2.1.cell 4 rfl
          have b5' := HV.out.2.1.cell 5 rfl
          have b6' := HV.out.2.1.cell 6 rfl
          have c0' := HV.out.2.2.cell 0 rfl
          have c1' := HV.out.2.2.cell 1 rfl
          have c2' := HV.out.2.2.cell 2 rfl
          have c3' := HV.out.2.2.cell 3 rfl
          have c4' := HV.out.2.2.cell 4 rfl
          have c5' := HV.out.2.2.cell 5 rfl
          have c6' := HV.out.2.2.cell 6 rfl
          go_wp2_with fail
          refine (awake_any _).mono ?_
          rintro e w9 ⟨rfl, hb⟩
          go_wp2
          go_ret
          exact ⟨rfl, below_more HB.out hb HB.out.size⟩
    · exact absurd ⟨by simpa using q3, by simpa using q4⟩ h2
  · cases q3 : (b4 == c4) <;> cases q4 : (b5 == c5)
    · clear h1 h2
      rcases t1 with t1 | t1 | t1
      · have N1 : Hid (newI a0 a4 a5 b0 b4 b5 = -1) := t1
        clear t1
        go_wp2_with fail
        refine (cmp_at _ _ _ _ _ _ _ _ _ _ _ _ _ _ _ N1.out Ia.out Ib.out _).mono ?_
        rintro e w1 ⟨rfl, hb⟩
        replace HB : Hid (Below w.heap.size w w1) := below_more HB.out hb HB.out.size
        replace HV : Hid (Var w1 w.heap.size [.int .i64 a0, .int .i64 a1, .int .i64 a2, .int .i64 a3, .int .i64 a4, .int .i64 a5, .int .i64 a6] ∧ Var w1 (w.heap.size + 1) [.int .i64 b0, .int .i64 b1, .int .i64 b2, .int .i64 b3, .int .i64 b4, .int .i64 b5, .int .i64 b6] ∧ Var w1 (w.heap.size + 1 + 1) [.int .i64 c0, .int .i64 c1, .int .i64 c2, .int .i64 c3, .int .i64 c4, .int .i64 c5, .int .i64 c6]) := ⟨HV.out.1.below hb HV.out.1.lt, HV.out.2.1.below hb HV.out.2.1.lt, HV.out.2.2.below hb HV.out.2.2.lt⟩
        clear a0' a1' a2' a3' a4' a5' a6' b0' b1' b2' b3' b4' b5' b6' c0' c1' c2' c3' c4' c5' c6' hb
        have a0' := HV.out.1.cell 0 rfl
        have a1' := HV.out.1.cell 1 rfl
        have a2' := HV.out.1.cell 2 rfl
        have a3' := HV.out.1.cell 3 rfl
        have a4' := HV.out.1.cell 4 rfl
        have a5' := HV.out.1.cell 5 rfl
        have a6' := HV.out.1.cell 6 rfl
        have b0' := HV.out.2.1.cell 0 rfl
        have b1' := HV.out.2.1.cell 1 rfl
        have b2' := HV.out.2.1.cell 2 rfl
        have b3' := HV.out.2.1.cell 3 rfl
        have b4' := HV.out.2.1.cell 4 rfl
        have b5' := HV.out.2.1.cell 5 rfl
        have b6' := HV.out.2.1.cell 6 rfl
        have c0' := HV.out.2.2.cell 0 rfl
        have c1' := HV.out.2.2.cell 1 rfl
        have c2' := HV.out.2.2.cell 2 rfl
        have c3' := HV.out.2.2.cell 3 rfl
        have c4' := HV.out.2.2.cell 4 rfl
        have c5' := HV.out.2.2.cell 5 rfl
        have c6' := HV.out.2.2.cell 6 rfl
        go_wp2_with fail
        refine (awake_any _).mono ?_
        rintro e w9 ⟨rfl, hb⟩
        go_wp2
        go_ret
        exact ⟨rfl, below_more HB.out hb HB.out.size⟩
      · have N1 : Hid (newI a0 a4 a5 b0 b4 b5 = 0) := t1
        clear t1
        go_wp2_with fail
        refine (cmp_at _ _ _ _ _ _ _ _ _ _ _ _ _ _ _ N1.out Ia.out Ib.out _).mono ?_
        rintro e w1 ⟨rfl, hb⟩
        replace HB : Hid (Below w.heap.size w w1) := below_more HB.out hb HB.out.size
        replace HV : Hid (Var w1 w.heap.size [.int .i64 a0, .int .i64 a1, .int .i64 a2, .int .i64 a3, .int .i64 a4, .int .i64 a5, .int .i64 a6] ∧ Var w1 (w.heap.size + 1) [.int .i64 b0, .int .i64 b1, .int .i64 b2, .int .i64 b3, .int .i64 b4, .int .i64 b5, .int .i64 b6] ∧ Var w1 (w.heap.size + 1 + 1) [.int .i64 c0, .int .i64 c1, .int .i64 c2, .int .i64 c3, .int .i64 c4, .int .i64 c5, .int .i64 c6]) := ⟨HV.out.1.below hb HV.out.1.lt, HV.out.2.1.below hb HV.out.2.1.lt, HV.out.2.2.below hb HV.out.2.2.lt⟩
        clear a0' a1' a2' a3' a4' a5' a6' b0' b1' b2' b3' b4' b5' b6' c0' c1' c2' c3' c4' c5' c6' hb
        have a0' := HV.out.1.cell 0 rfl
        have a1' := HV.out.1.cell 1 rfl
        have a2' := HV.out.1.cell 2 rfl
        have a3' := HV.out.1.cell 3 rfl
        have a4' := HV.out.1.cell 4 rfl
        have a5' := HV.out.1.cell 5 rfl
        have a6' := HV.out.1.cell 6 rfl
        have b0' := HV.out.2.1.cell 0 rfl
        have b1' := HV.out.2.1.cell 1 rfl
        have b2' := HV.out.2.1.cell 2 rfl
        have b3' := HV.out.2.1.cell 3 rfl
        have b4' := HV.out.2.1.cell 4 rfl
        have b5' := HV.out.2.1.cell 5 rfl
        have b6' := HV.out.2.1.cell 6 rfl
        have c0' := HV.out.2.2.cell 0 rfl
        have c1' := HV.out.2.2.cell 1 rfl
        have c2' := HV.out.2.2.cell 2 rfl
        have c3' := HV.out.2.2.cell 3 rfl
        have c4' := HV.out.2.2.cell 4 rfl
        have c5' := HV.out.2.2.cell 5 rfl
        have c6' := HV.out.2.2.cell 6 rfl
        go_wp2_with fail
        refine (awake_any _).mono ?_
        rintro e w9 ⟨rfl, hb⟩
        go_wp2
        go_ret
        exact ⟨rfl, below_more HB.out hb HB.out.size⟩
      · have N1 : Hid (newI a0 a4 a5 b0 b4 b5 = 1) := t1
        clear t1
        go_wp2_with fail
        refine (cmp_at _ _ _ _ _ _ _ _ _ _ _ _ _ _ _ N1.out Ia.out Ib.out _).mono ?_
        rintro e w1 ⟨rfl, hb⟩
        replace HB : Hid (Below w.heap.size w w1) := below_more HB.out hb HB.out.size
        replace HV : Hid (Var w1 w.heap.size [.int .i64 a0, .int .i64 a1, .int .i64 a2, .int .i64 a3, .int .i64 a4, .int .i64 a5, .int .i64 a6] ∧ Var w1 (w.heap.size + 1) [.int .i64 b0, .int .i64 b1, .int .i64 b2, .int .i64 b3, .int .i64 b4, .int .i64 b5, .int .i64 b6] ∧ Var w1 (w.heap.size + 1 + 1) [.int .i64 c0, .int .i64 c1, .int .i64 c2, .int .i64 c3, .int .i64 c4, .int .i64 c5, .int .i64 c6]) := ⟨HV.out.1.below hb HV.out.1.lt, HV.out.2.1.below hb HV.out.2.1.lt, HV.out.2.2.below hb HV.out.2.2.lt⟩
        clear a0' a1' a2' a3' a4' a5' a6' b0' b1' b2' b3' b4' b5' b6' c0' c1' c2' c3' c4' c5' c6' hb
        have a0' := HV.out.1.cell 0 rfl
        have a1' := HV.out.1.cell 1 rfl
        have a2' := HV.out.1.cell 2 rfl
        have a3' := HV.out.1.cell 3 rfl
        have a4' := HV.out.1.cell 4 rfl
        have a5' := HV.out.1.cell 5 rfl
        have a6' := HV.out.1.cell 6 rfl
        have b0' := HV.out.2.1.cell 0 rfl
        have b1' := HV.out.2.1.cell 1 rfl
        have b2' := HV.out.2.1.cell 2 rfl
        have b3' := HV.out.2.1.cell 3 rfl
        have b4' := HV.out.2.1.cell 4 rfl
        have b5' := HV.out.2.1.cell 5 rfl
        have b6' := HV.out.2.1.cell 6 rfl
        have c0' := HV.out.2.2.cell 0 rfl
        have c1' := HV.out.2.2.cell 1 rfl
        have c2' := HV.out.2.2.cell 2 rfl
        have c3' := HV.out.2.2.cell 3 rfl
        have c4' := HV.out.2.2.cell 4 rfl
        have c5' := HV.out.2.2.cell 5 rfl
        have c6' := HV.out.2.2.cell 6 rfl
        rcases t2 with t2 | t2 | t2
        · have N2 : Hid (newI b0 b4 b5 c0 c4 c5 = -1) := t2
          clear t2
          go_wp2_with fail
          refine (cmp_at _ _ _ _ _ _ _ _ _ _ _ _ _ _ _ N2.out Ib.out Ic.out _).mono ?_
          rintro e w2 ⟨rfl, hb⟩
          replace HB : Hid (Below w.heap.size w w2) := below_more HB.out hb HB.out.size
          replace HV : Hid (Var w2 w.heap.size [.int .i64 a0, .int .i64 a1, .int .i64 a2, .int .i64 a3, .int .i64 a4, .int .i64 a5, .int .i64 a6] ∧ Var w2 (w.heap.size + 1) [.int .i64 b0, .int .i64 b1, .int .i64 b2, .int .i64 b3, .int .i64 b4, .int .i64 b5, .int .i64 b6] ∧ Var w2 (w.heap.size + 1 + 1) [.int .i64 c0, .int .i64 c1, .int .i64 c2, .int .i64 c3, .int .i64 c4, .int .i64 c5, .int .i64 c6]) := ⟨HV.out.1.below hb HV.out.1.lt, HV.out.2.1.below hb HV.out.2.1.lt, HV.out.2.2.below hb HV.out.2.2.lt⟩
          clear a0' a1' a2' a3' a4' a5' a6' b0' b1' b2' b3' b4' b5' b6' c0' c1' c2' c3' c4' c5' c6' hb
          have a0' := HV.out.1.cell 0 rfl
          have a1' := HV.out.1.cell 1 rfl
          have a2' := HV.out.1.cell 2 rfl
          have a3' := HV.out.1.cell 3 rfl
          have a4' := HV.out.1.cell 4 rfl
          have a5' := HV.out.1.cell 5 rfl
          have a6' := HV.out.1.cell 6 rfl
          have b0' := HV.out.2.1.cell 0 rfl
          have b1' := HV.out.2.1.cell 1 rfl
          have b2' := HV.out.2.1.cell 2 rfl
          have b3' := HV.out.2.1.cell 3 rfl
          have b4' := HV.out.2.1.cell 4 rfl
          have b5' := HV.out.2.1.cell 5 rfl
          have b6' := HV.out.2.1.cell 6 rfl
          have c0' := HV.out.2.2.cell 0 rfl
          have c1' := HV.out.2.2.cell 1 rfl
          have c2' := HV.out.2.2.cell 2 rfl
          have c3' := HV.out.2.2.cell 3 rfl
          have c4' := HV.out.2.2.cell 4 rfl
          have c5' := HV.out.2.2.cell 5 rfl
          have c6' := HV.out.2.2.cell 6 rfl
          go_wp2_with fail
          refine (awake_any _).mono ?_
          rintro e w9 ⟨rfl, hb⟩
          go_wp2
          go_ret
          exact ⟨rfl, below_more HB.out hb HB.out.size⟩
        · have N2 : Hid (newI b0 b4 b5 c0 c4 c5 = 0) := t2
          clear t2
          go_wp2_with fail
          refine (cmp_at _ _ _ _ _ _ _ _ _ _ _ _ _ _ _ N2.out Ib.out Ic.out _).mono ?_
          rintro e w2 ⟨rfl, hb⟩
          replace HB : Hid (Below w.heap.size w w2) := below_more HB.out hb HB.out.size
          replace HV : Hid (Var w2 w.heap.size [.int .i64 a0, .int .i64 a1, .int .i64 a2, .int .i64 a3, .int .i64 a4, .int .i64 a5, .int .i64 a6] ∧ Var w2 (w.heap.size + 1) [.int .i64 b0, .int .i64 b1, .int .i64 b2, .int .i64 b3, .int .i64 b4, .int .i64 b5, .int .i64 b6] ∧ Var w2 (w.heap.size + 1 + 1) [.int .i64 c0, .int .i64 c1, .int .i64 c2, .int .i64 c3, .int .i64 c4, .int .i64 c5, .int .i64 c6]) := ⟨HV.out.1.below hb HV.out.1.lt, HV.out.2.1.below hb HV.out.2.1.lt, HV.out.2.2.below hb HV.out.2.2.lt⟩
          clear a0' a1' a2' a3' a4' a5' a6' b0' b1' b2' b3' b4' b5' b6' c0' c1' c2' c3' c4' c5' c6' hb
          have a0' := HV.out.1.cell 0 rfl
          have a1' := HV.out.1.cell 1 rfl
          have a2' := HV.out.1.cell 2 rfl
          have a3' := HV.out.1.cell 3 rfl
          have a4' := HV.out.1.cell 4 rfl
          have a5' := HV.out.1.cell 5 rfl
          have a6' := HV.out.1.cell 6 rfl
          have b0' := HV.out.2.1.cell 0 rfl
          have b1' := HV.out.2.1.cell 1 rfl
          have b2' := HV.out.2.1.cell 2 rfl
          have b3' := HV.out.2.1.cell 3 rfl
          have b4' := HV.out.2.1.cell 4 rfl
          have b5' := HV.out.2.1.cell 5 rfl
          have b6' := HV.out.2.1.cell 6 rfl
          have c0' := HV.out.2.2.cell 0 rfl
          have c1' := HV.out.2.2.cell 1 rfl
          have c2' := HV.out.2.2.cell 2 rfl
          have c3' := HV.out.2.2.cell 3 rfl
          have c4' := HV.out.2.2.cell 4 rfl
          have c5' := HV.out.2.2.cell 5 rfl
          have c6' := HV.out.2.2.cell 6 rfl
          go_wp2_with fail
          refine (awake_any _).mono ?_
          rintro e w9 ⟨rfl, hb⟩
          go_wp2
          go_ret
          exact ⟨rfl, below_more HB.out hb HB.out.size⟩
        · have N2 : Hid (newI b0 b4 b5 c0 c4 c5 = 1) := t2
          clear t2
          have N3 : Hid (newI a0 a4 a5 c0 c4 c5 = 1) := newI_rows HH.out.1 HH.out.2 (by rw [N1.out]; decide) (by rw [N2.out]; decide)
          go_wp2_with fail
          refine (cmp_at _ _ _ _ _ _ _ _ _ _ _ _ _ _ _ N2.out Ib.out Ic.out _).mono ?_
          rintro e w2 ⟨rfl, hb⟩
          replace HB : Hid (Below w.heap.size w w2) := below_more HB.out hb HB.out.size
          replace HV : Hid (Var w2 w.heap.size [.int .i64 a0, .int .i64 a1, .int .i64 a2, .int .i64 a3, .int .i64 a4, .int .i64 a5, .int .i64 a6] ∧ Var w2 (w.heap.size + 1) [.int .i64 b0, .int .i64 b1, .int .i64 b2, .int .i64 b3, .int .i64 b4, .int .i64 b5, .int .i64 b6] ∧ Var w2 (w.heap.size + 1 + 1) [.int .i64 c0, .int .i64 c1, .int .i64 c2, .int .i64 c3, .int .i64 c4, .int .i64 c5, .int .i64 c6]) := ⟨HV.out.1.below hb HV.out.1.lt, HV.out.2.1.below hb HV.out.2.1.lt, HV.out.2.2.below hb HV.out.2.2.lt⟩
          clear a0' a1' a2' a3' a4' a5' a6' b0' b1' b2' b3' b4' b5' b6' c0' c1' c2' c3' c4' c5' c6' hb
          have a0' := HV.out.1.cell 0 rfl
          have a1' := HV.out.1.cell 1 rfl
          have a2' := HV.out.1.cell 2 rfl
          have a3' := HV.out.1.cell 3 rfl
          have a4' := HV.out.1.cell 4 rfl
          have a5' := HV.out.1.cell 5 rfl
          have a6' := HV.out.1.cell 6 rfl
          have b0' := HV.out.2.1.cell 0 rfl
          have b1' := HV.out.2.1.cell 1 rfl
          have b2' := HV.out.2.1.cell 2 rfl
          have b3' := HV.out.2.1.cell 3 rfl
          have b4' := HV.out.2.1.cell 4 rfl
          have b5' := HV.out.2.1.cell 5 rfl
          have b6' := HV.out.2.1.cell 6 rfl
          have c0' := HV.out.2.2.cell 0 rfl
          have c1' := HV.out.2.2.cell 1 rfl
          have c2' := HV.out.2.2.cell 2 rfl
          have c3' := HV.out.2.2.cell 3 rfl
          have c4' := HV.out.2.2.cell 4 rfl
          have c5' := HV.out.2.2.cell 5 rfl
          have c6' := HV.out.2.2.cell 6 rfl
          go_wp2_with fail
          refine (cmp_at _ _ _ _ _ _ _ _ _ _ _ _ _ _ _ N3.out Ia.out Ic.out _).mono ?_
          rintro e w3 ⟨rfl, hb⟩
          replace HB : Hid (Below w.heap.size w w3) := below_more HB.out hb HB.out.size
          replace HV : Hid (Var w3 w.heap.size [.int .i64 a0, .int .i64 a1, .int .i64 a2, .int .i64 a3, .int .i64 a4, .int .i64 a5, .int .i64 a6] ∧ Var w3 (w.heap.size + 1) [.int .i64 b0, .int .i64 b1, .int .i64 b2, .int .i64 b3, .int .i64 b4, .int .i64 b5, .int .i64 b6] ∧ Var w3 (w.heap.size + 1 + 1) [.int .i64 c0, .int .i64 c1, .int .i64 c2, .int .i64 c3, .int .i64 c4, .int .i64 c5, .int .i64 c6]) := ⟨HV.out.1.below hb HV.out.1.lt, HV.out.2.1.below hb HV.out.2.1.lt, HV.out.2.2.below hb HV.out.2.2.lt⟩
          clear a0' a1' a2' a3' a4' a5' a6' b0' b1' b2' b3' b4' b5' b6' c0' c1' c2' c3' c4' c5' c6' hb
          have a0' := HV.out.1.cell 0 rfl
          have a1' := HV.out.1.cell 1 rfl
          have a2' := HV.out.1.cell 2 rfl
          have a3' := HV.out.1.cell 3 rfl
          have a4' := HV.out.1.cell 4 rfl
          have a5' := HV.out.1.cell 5 rfl
          have a6' := HV.out.1.cell 6 rfl
          have b0' := HV.out.2.1.cell 0 rfl
          have b1' := HV.out.2.1.cell 1 rfl
          have b2' := HV.out.2.1.cell 2 rfl
          have b3' := HV.out.2.1.cell 3 rfl
          have b4' := HV.out.2.1.cell 4 rfl
          have b5' := HV.out.2.1.cell 5 rfl
          have b6' := HV.out.2.1.cell 6 rfl
          have c0' := HV.out.2.2.cell 0 rfl
          have c1' := HV.out.2.2.cell 1 rfl
          have c2' := HV.out.2.2.cell 2 rfl
          have c3' := HV.out.2.2.cell 3 rfl
          have c4' := HV.out.2.2.cell 4 rfl
          have c5' := HV.out.2.2.cell 5 rfl
          have c6' := HV.out.2.2.cell 6 rfl
          go_wp2_with fail
          refine (awake_any _).mono ?_
          rintro e w9 ⟨rfl, hb⟩
          go_wp2
          go_ret
          exact ⟨rfl, below_more HB.out hb HB.out.size⟩
    · clear h1 h2
      rcases t1 with t1 | t1 | t1
      · have N1 : Hid (newI a0 a4 a5 b0 b4 b5 = -1) := t1
        clear t1
        go_wp2_with fail
        refine (cmp_at _ _ _ _ _ _ _ _ _ _ _ _ _ _ _ N1.out Ia.out Ib.out _).mono ?_
        rintro e w1 ⟨rfl, hb⟩
        replace HB : Hid (Below w.heap.size w w1) := below_more HB.out hb HB.out.size
        replace HV : Hid (Var w1 w.heap.size [.int .i64 a0, .int .i64 a1, .int .i64 a2, .int .i64 a3, .int .i64 a4, .int .i64 a5, .int .i64 a6] ∧ Var w1 (w.heap.size + 1) [.int .i64 b0, .int .i64 b1, .int .i64 b2, .int .i64 b3, .int .i64 b4, .int .i64 b5, .int .i64 b6] ∧ Var w1 (w.heap.size + 1 + 1) [.int .i64 c0, .int .i64 c1, .int .i64 c2, .int .i64 c3, .int .i64 c4, .int .i64 c5, .int .i64 c6]) := ⟨HV.out.1.below hb HV.out.1.lt, HV.out.2.1.below hb HV.out.2.1.lt, HV.out.2.2.below hb HV.out.2.2.lt⟩
        clear a0' a1' a2' a3' a4' a5' a6' b0' b1' b2' b3' b4' b5' b6' c0' c1' c2' c3' c4' c5' c6' hb
        have a0' := HV.out.1.cell 0 rfl
        have a1' := HV.out.1.cell 1 rfl
        have a2' := HV.out.1.cell 2 rfl
        have a3' := HV.out.1.cell 3 rfl
        have a4' := HV.out.1.cell 4 rfl
        have a5' := HV.out.1.cell 5 rfl
        have a6' := HV.out.1.cell 6 rfl
        have b0' := HV.out.2.1.cell 0 rfl
        have b1' := HV.out.2.1.cell 1 rfl
        have b2' := HV.out.2.1.cell 2 rfl
        have b3' := HV.out.2.1.cell 3 rfl
        have b4' := HV.out.2.1.cell 4 rfl
        have b5' := HV.out.2.1.cell 5 rfl
        have b6' := HV.out.2.1.cell 6 rfl
        have c0' := HV.out.2.2.cell 0 rfl
        have c1' := HV.out.2.2.cell 1 rfl
        have c2' := HV.out.2.2.cell 2 rfl
        have c3' := HV.out.2.2.cell 3 rfl
        have c4' := HV.out.2.2.cell 4 rfl
        have c5' := HV.out.2.2.cell 5 rfl
        have c6' := HV.out.2.2.cell 6 rfl
        go_wp2_with fail
        refine (awake_any _).mono ?_
        rintro e w9 ⟨rfl, hb⟩
        go_wp2
        go_ret
        exact ⟨rfl, below_more HB.out hb HB.out.size⟩
      · have N1 : Hid (newI a0 a4 a5 b0 b4 b5 = 0) := t1
        clear t1
        go_wp2_with fail
        refine (cmp_at _ _ _ _ _ _ _ _ _ _ _ _ _ _ _ N1.out Ia.out Ib.out _).mono ?_
        rintro e w1 ⟨rfl, hb⟩
        replace HB : Hid (Below w.heap.size w w1) := below_more HB.out hb HB.out.size
        replace HV : Hid (Var w1 w.heap.size [.int .i64 a0, .int .i64 a1, .int .i64 a2, .int .i64 a3, .int .i64 a4, .int .i64 a5, .int .i64 a6] ∧ Var w1 (w.heap.size + 1) [.int .i64 b0, .int .i64 b1, .int .i64 b2, .int .i64 b3, .int .i64 b4, .int .i64 b5, .int .i64 b6] ∧ Var w1 (w.heap.size + 1 + 1) [.int .i64 c0, .int .i64 c1, .int .i64 c2, .int .i64 c3, .int .i64 c4, .int .i64 c5, .int .i64 c6]) := ⟨HV.out.1.below hb HV.out.1.lt, HV.out.2.1.below hb HV.out.2.1.lt, HV.out.2.2.below hb HV.out.2.2.lt⟩
        clear a0' a1' a2' a3' a4' a5' a6' b0' b1' b2' b3' b4' b5' b6' c0' c1' c2' c3' c4' c5' c6' hb
        have a0' := HV.out.1.cell 0 rfl
        have a1' := HV.out.1.cell 1 rfl
        have a2' := HV.out.1.cell 2 rfl
        have a3' := HV.out.1.cell 3 rfl
        have a4' := HV.out.1.cell 4 rfl
        have a5' := HV.out.1.cell 5 rfl
        have a6' := HV.out.1.cell 6 rfl
        have b0' := HV.out.2.1.cell 0 rfl
        have b1' := HV.out.2.1.cell 1 rfl
        have b2' := HV.out.2.1.cell 2 rfl
        have b3' := HV.out.2.1.cell 3 rfl
        have b4' := HV.out.2.1.cell 4 rfl
        have b5' := HV.out.2.1.cell 5 rfl
        have b6' := HV.out.2.1.cell 6 rfl
        have c0' := HV.out.2.2.cell 0 rfl
        have c1' := HV.out.2.2.cell 1 rfl
        have c2' := HV.out.2.2.cell 2 rfl
        have c3' := HV.out.2.2.cell 3 rfl
        have c4' := HV.out.2.2.cell 4 rfl
        have c5' := HV.out.2.2.cell 5 rfl
        have c6' := HV.out.2.2.cell 6 rfl
        go_wp2_with fail
        refine (awake_any _).mono ?_
        rintro e w9 ⟨rfl, hb⟩
        go_wp2
        go_ret
        exact ⟨rfl, below_more HB.out hb HB.out.size⟩
      · have N1 : Hid (newI a0 a4 a5 b0 b4 b5 = 1) := t1
        clear t1
        go_wp2_with fail
        refine (cmp_at _ _ _ _ _ _ _ _ _ _ _ _ _ _ _ N1.out Ia.out Ib.out _).mono ?_
        rintro e w1 ⟨rfl, hb⟩
        replace HB : Hid (Below w.heap.size w w1) := below_more HB.out hb HB.out.size
        replace HV : Hid (Var w1 w.heap.size [.int .i64 a0, .int .i64 a1, .int .i64 a2, .int .i64 a3, .int .i64 a4, .int .i64 a5, .int .i64 a6] ∧ Var w1 (w.heap.size + 1) [.int .i64 b0, .int .i64 b1, .int .i64 b2, .int .i64 b3, .int .i64 b4, .int .i64 b5, .int .i64 b6] ∧ Var w1 (w.heap.size + 1 + 1) [.int .i64 c0, .int .i64 c1, .int .i64 c2, .int .i64 c3, .int .i64 c4, .int .i64 c5, .int .i64 c6]) := ⟨HV.out.1.below hb HV.out.1.lt, HV.out.2.1.below hb HV.out.2.1.lt, HV.out.2.2.below hb HV.out.2.2.lt⟩
        clear a0' a1' a2' a3' a4' a5' a6' b0' b1' b2' b3' b4' b5' b6' c0' c1' c2' c3' c4' c5' c6' hb
        have a0' := HV.out.1.cell 0 rfl
        have a1' := HV.out.1.cell 1 rfl
        have a2' := HV.out.1.cell 2 rfl
        have a3' := HV.out.1.cell 3 rfl
        have a4' := HV.out.1.cell 4 rfl
        have a5' := HV.out.1.cell 5 rfl
        have a6' := HV.out.1.cell 6 rfl
        have b0' := HV.out.2.1.cell 0 rfl
        have b1' := HV.out.2.1.cell 1 rfl
        have b2' := HV.out.2.1.cell 2 rfl
        have b3' := HV.out.2.1.cell 3 rfl
        have b4' := HV.out.2.1.cell 4 rfl
        have b5' := HV.out.2.1.cell 5 rfl
        have b6' := HV.out.2.1.cell 6 rfl
        have c0' := HV.out.2.2.cell 0 rfl
        have c1' := HV.out.2.2.cell 1 rfl
        have c2' := HV.out.2.2.cell 2 rfl
        have c3' := HV.out.2.2.cell 3 rfl
        have c4' := HV.out.2.2.cell 4 rfl
        have c5' := HV.out.2.2.cell 5 rfl
        have c6' := HV.out.2.2.cell 6 rfl
        rcases t2 with t2 | t2 | t2
        · have N2 : Hid (newI b0 b4 b5 c0 c4 c5 = -1) := t2
          clear t2
          go_wp2_with fail
          refine (cmp_at _ _ _ _ _ _ _ _ _ _ _ _ _ _ _ N2.out Ib.out Ic.out _).mono ?_
          rintro e w2 ⟨rfl, hb⟩
          replace HB : Hid (Below w.heap.size w w2) := below_more HB.out hb HB.out.size
          replace HV : Hid (Var w2 w.heap.size [.int .i64 a0, .int .i64 a1, .int .i64 a2, .int .i64 a3, .int .i64 a4, .int .i64 a5, .int .i64 a6] ∧ Var w2 (w.heap.size + 1) [.int .i64 b0, .int .i64 b1, .int .i64 b2, .int .i64 b3, .int .i64 b4, .int .i64 b5, .int .i64 b6] ∧ Var w2 (w.heap.size + 1 + 1) [.int .i64 c0, .int .i64 c1, .int .i64 c2, .int .i64 c3, .int .i64 c4, .int .i64 c5, .int .i64 c6]) := ⟨HV.out.1.below hb HV.out.1.lt, HV.out.2.1.below hb HV.out.2.1.lt, HV.out.2.2.below hb HV.out.2.2.lt⟩
          clear a0' a1' a2' a3' a4' a5' a6' b0' b1' b2' b3' b4' b5' b6' c0' c1' c2' c3' c4' c5' c6' hb
          have a0' := HV.out.1.cell 0 rfl
          have a1' := HV.out.1.cell 1 rfl
          have a2' := HV.out.1.cell 2 rfl
          have a3' := HV.out.1.cell 3 rfl
          have a4' := HV.out.1.cell 4 rfl
          have a5' := HV.out.1.cell 5 rfl
          have a6' := HV.out.1.cell 6 rfl
          have b0' := HV.out.2.1.cell 0 rfl
          have b1' := HV.out.2.1.cell 1 rfl
          have b2' := HV.out.2.1.cell 2 rfl
          have b3' := HV.out.2.1.cell 3 rfl
          have b4' := HV.out.2.1.cell 4 rfl
          have b5' := HV.out.2.1.cell 5 rfl
          have b6' := HV.out.2.1.cell 6 rfl
          have c0' := HV.out.2.2.cell 0 rfl
          have c1' := HV.out.2.2.cell 1 rfl
          have c2' := HV.out.2.2.cell 2 rfl
          have c3' := HV.out.2.2.cell 3 rfl
          have c4' := HV.out.2.2.cell 4 rfl
          have c5' := HV.out.2.2.cell 5 rfl
          have c6' := HV.out.2.2.cell 6 rfl
          go_wp2_with fail
          refine (awake_any _).mono ?_
          rintro e w9 ⟨rfl, hb⟩
          go_wp2
          go_ret
          exact ⟨rfl, below_more HB.out hb HB.out.size⟩
        · have N2 : Hid (newI b0 b4 b5 c0 c4 c5 = 0) := t2
          clear t2
          go_wp2_with fail
          refine (cmp_at _ _ _ _ _ _ _ _ _ _ _ _ _ _ _ N2.out Ib.out Ic.out _).mono ?_
          rintro e w2 ⟨rfl, hb⟩
          replace HB : Hid (Below w.heap.size w w2) := below_more HB.out hb HB.out.size
          replace HV : Hid (Var w2 w.heap.size [.int .i64 a0, .int .i64 a1, .int .i64 a2, .int .i64 a3, .int .i64 a4, .int .i64 a5, .int .i64 a6] ∧ Var w2 (w.heap.size + 1) [.int .i64 b0, .int .i64 b1, .int .i64 b2, .int .i64 b3, .int .i64 b4, .int .i64 b5, .int .i64 b6] ∧ Var w2 (w.heap.size + 1 + 1) [.int .i64 c0, .int .i64 c1, .int .i64 c2, .int .i64 c3, .int .i64 c4, .int .i64 c5, .int .i64 c6]) := ⟨HV.out.1.below hb HV.out.1.lt, HV.out.2.1.below hb HV.out.2.1.lt, HV.out.2.2.below hb HV.out.2.2.lt⟩
          clear a0' a1' a2' a3' a4' a5' a6' b0' b1' b2' b3' b4' b5' b6' c0' c1' c2' c3' c4' c5' c6' hb
          have a0' := HV.out.1.cell 0 rfl
          have a1' := HV.out.1.cell 1 rfl
          have a2' := HV.out.1.cell 2 rfl
          have a3' := HV.out.1.cell 3 rfl
          have a4' := HV.out.1.cell 4 rfl
          have a5' := HV.out.1.cell 5 rfl
          have a6' := HV.out.1.cell 6 rfl
          have b0' := HV.out.2.1.cell 0 rfl
          have b1' := HV.out.2.1.cell 1 rfl
          have b2' := HV.out.2.1.cell 2 rfl
          have b3' := HV.out.2.1.cell 3 rfl
          have b4' := HV.out.2.1.cell 4 rfl
          have b5' := HV.out.2.1.cell 5 rfl
          have b6' := HV.out.2.1.cell 6 rfl
          have c0' := HV.out.2.2.cell 0 rfl
          have c1' := HV.out.2.2.cell 1 rfl
          have c2' := HV.out.2.2.cell 2 rfl
          have c3' := HV.out.2.2.cell 3 rfl
          have c4' := HV.out.2.2.cell 4 rfl
          have c5' := HV.out.2.2.cell 5 rfl
          have c6' := HV.out.2.2.cell 6 rfl
          go_wp2_with fail
          refine (awake_any _).mono ?_
          rintro e w9 ⟨rfl, hb⟩
          go_wp2
          go_ret
          exact ⟨rfl, below_more HB.out hb HB.out.size⟩
        · have N2 : Hid (newI b0 b4 b5 c0 c4 c5 = 1) := t2
          clear t2
          have N3 : Hid (newI a0 a4 a5 c0 c4 c5 = 1) := newI_rows HH.out.1 HH.out.2 (by rw [N1.out]; decide) (by rw [N2.out]; decide)
          go_wp2_with fail
          refine (cmp_at _ _ _ _ _ _ _ _ _ _ _ _ _ _ _ N2.out Ib.out Ic.out _).mono ?_
          rintro e w2 ⟨rfl, hb⟩
          replace HB : Hid (Below w.heap.size w w2) := below_more HB.out hb HB.out.size
          replace HV : Hid (Var w2 w.heap.size [.int .i64 a0, .int .i64 a1, .int .i64 a2, .int .i64 a3, .int .i64 a4, .int .i64 a5, .int .i64 a6] ∧ Var w2 (w.heap.size + 1) [.int .i64 b0, .int .i64 b1, .int .i64 b2, .int .i64 b3, .int .i64 b4, .int .i64 b5, .int .i64 b6] ∧ Var w2 (w.heap.size + 1 + 1) [.int .i64 c0, .int .i64 c1, .int .i64 c2, .int .i64 c3, .int .i64 c4, .int .i64 c5, .int .i64 c6]) := ⟨HV.out.1.below hb HV.out.1.lt, HV.out.2.1.below hb HV.out.2.1.lt, HV.out.2.2.below hb HV.out.2.2.lt⟩
          clear a0' a1' a2' a3' a4' a5' a6' b0' b1' b2' b3' b4' b5' b6' c0' c1' c2' c3' c4' c5' c6' hb
          have a0' := HV.out.1.cell 0 rfl
          have a1' := HV.out.1.cell 1 rfl
          have a2' := HV.out.1.cell 2 rfl
          have a3' := HV.out.1.cell 3 rfl
          have a4' := HV.out.1.cell 4 rfl
          have a5' := HV.out.1.cell 5 rfl
          have a6' := HV.out.1.cell 6 rfl
          have b0' := HV.out.2.1.cell 0 rfl
          have b1' := HV.out.2.1.cell 1 rfl
          have b2' := HV.out.2.1.cell 2 rfl
          have b3' := HV.out.2.1.cell 3 rfl
          have b4' := HV.out.2.1.cell 4 rfl
          have b5' := HV.out.2.1.cell 5 rfl
          have b6' := HV.out.2.1.cell 6 rfl
          have c0' := HV.out.2.2.cell 0 rfl
          have c1' := HV.out.2.2.cell 1 rfl
          have c2' := HV.out.2.2.cell 2 rfl
          have c3' := HV.out.2.2.cell 3 rfl
          have c4' := HV.out.2.2.cell 4 rfl
          have c5' := HV.out.2.2.cell 5 rfl
          have c6' := HV.out.2.2.cell 6 rfl
          go_wp2_with fail
          refine (cmp_at _ _ _ _ _ _ _ _ _ _ _ _ _ _ _ N3.out Ia.out Ic.out _).mono ?_
          rintro e w3 ⟨rfl, hb⟩
          replace HB : Hid (Below w.heap.size w w3) := below_more HB.out hb HB.out.size
          replace HV : Hid (Var w3 w.heap.size [.int .i64 a0, .int .i64 a1, .int .i64 a2, .int .i64 a3, .int .i64 a4, .int .i64 a5, .int .i64 a6] ∧ Var w3 (w.heap.size + 1) [.int .i64 b0, .int .i64 b1, .int .i64 b2, .int .i64 b3, .int .i64 b4, .int .i64 b5, .int .i64 b6] ∧ Var w3 (w.heap.size + 1 + 1) [.int .i64 c0, .int .i64 c1, .int .i64 c2, .int .i64 c3, .int .i64 c4, .int .i64 c5, .int .i64 c6]) := ⟨HV.out.1.below hb HV.out.1.lt, HV.out.2.1.below hb HV.out.2.1.lt, HV.out.2.2.below hb HV.out.2.2.lt⟩
          clear a0' a1' a2' a3' a4' a5' a6' b0' b1' b2' b3' b4' b5' b6' c0' c1' c2' c3' c4' c5' c6' hb
          have a0' := HV.out.1.cell 0 rfl
          have a1' := HV.out.1.cell 1 rfl
          have a2' := HV.out.1.cell 2 rfl
          have a3' := HV.out.1.cell 3 rfl
          have a4' := HV.out.1.cell 4 rfl
          have a5' := HV.out.1.cell 5 rfl
          have a6' := HV.out.1.cell 6 rfl
          have b0' := HV.out.2.1.cell 0 rfl
          have b1' := HV.out.2.1.cell 1 rfl
          have b2' := HV.out.2.1.cell 2 rfl
          have b3' := HV.out.2.1.cell 3 rfl
          have b4' := HV.out.2.1.cell 4 rfl
          have b5' := HV.out.2.1.cell 5 rfl
          have b6' := HV.out.2.1.cell 6 rfl
          have c0' := HV.out.2.2.cell 0 rfl
          have c1' := HV.out.2.2.cell 1 rfl
          have c2' := HV.out.2.2.cell 2 rfl
          have c3' := HV.out.2.2.cell 3 rfl
          have c4' := HV.out.2.2.cell 4 rfl
          have c5' := HV.out.2.2.cell 5 rfl
          have c6' := HV.out.2.2.cell 6 rfl
          go_wp2_with fail
          refine (awake_any _).mono ?_
          rintro e w9 ⟨rfl, hb⟩
          go_wp2
          go_ret
          exact ⟨rfl, below_more HB.out hb HB.out.size⟩
    · clear h1 h2
      rcases t1 with t1 | t1 | t1
      · have N1 : Hid (newI a0 a4 a5 b0 b4 b5 = -1) := t1
        clear t1
        go_wp2_with fail
        refine (cmp_at _ _ _ _ _ _ _ _ _ _ _ _ _ _ _ N1.out Ia.out Ib.out _).mono ?_
        rintro e w1 ⟨rfl, hb⟩
        replace HB : Hid (Below w.heap.size w w1) := below_more HB.out hb HB.out.size
        replace HV : Hid (Var w1 w.heap.size [.int .i64 a0, .int .i64 a1, .int .i64 a2, .int .i64 a3, .int .i64 a4, .int .i64 a5, .int .i64 a6] ∧ Var w1 (w.heap.size + 1) [.int .i64 b0, .int .i64 b1, .int .i64 b2, .int .i64 b3, .int .i64 b4, .int .i64 b5, .int .i64 b6] ∧ Var w1 (w.heap.size + 1 + 1) [.int .i64 c0, .int .i64 c1, .int .i64 c2, .int .i64 c3, .int .i64 c4, .int .i64 c5, .int .i64 c6]) := ⟨HV.out.1.below hb HV.out.1.lt, HV.out.2.1.below hb HV.out.2.1.lt, HV.out.2.2.below hb HV.out.2.2.lt⟩
        clear a0' a1' a2' a3' a4' a5' a6' b0' b1' b2' b3' b4' b5' b6' c0' c1' c2' c3' c4' c5' c6' hb
        have a0' := HV.out.1.cell 0 rfl
        have a1' := HV.out.1.cell 1 rfl
        have a2' := HV.out.1.cell 2 rfl
        have a3' := HV.out.1.cell 3 rfl
        have a4' := HV.out.1.cell 4 rfl
        have a5' := HV.out.1.cell 5 rfl
        have a6' := HV.out.1.cell 6 rfl
        have b0' := HV.out.2.1.cell 0 rfl
        have b1' := HV.out.2.1.cell 1 rfl
        have b2' := HV.out.2.1.cell 2 rfl
        have b3' := HV.out.2.1.cell 3 rfl
        have b4' := HV.out.2.1.cell 4 rfl
        have b5' := HV.out.2.1.cell 5 rfl
        have b6' := HV.out.2.1.cell 6 rfl
        have c0' := HV.out.2.2.cell 0 rfl
        have c1' := HV.out.2.2.cell 1 rfl
        have c2' := HV.out.2.2.cell 2 rfl
        have c3' := HV.out.2.2.cell 3 rfl
        have c4' := HV.out.2.2.cell 4 rfl
        have c5' := HV.out.2.2.cell 5 rfl
        have c6' := HV.out.2.2.cell 6 rfl
        go_wp2_with fail
        refine (awake_any _).mono ?_
        rintro e w9 ⟨rfl, hb⟩
        go_wp2
        go_ret
        exact ⟨rfl, below_more HB.out hb HB.out.size⟩
      · have N1 : Hid (newI a0 a4 a5 b0 b4 b5 = 0) := t1
        clear t1
        go_wp2_with fail
        refine (cmp_at _ _ _ _ _ _ _ _ _ _ _ _ _ _ _ N1.out Ia.out Ib.out _).mono ?_
        rintro e w1 ⟨rfl, hb⟩
        replace HB : Hid (Below w.heap.size w w1) := below_more HB.out hb HB.out.size
        replace HV : Hid (Var w1 w.heap.size [.int .i64 a0, .int .i64 a1, .int .i64 a2, .int .i64 a3, .int .i64 a4, .int .i64 a5, .int .i64 a6] ∧ Var w1 (w.heap.size + 1) [.int .i64 b0, .int .i64 b1, .int .i64 b2, .int .i64 b3, .int .i64 b4, .int .i64 b5, .int .i64 b6] ∧ Var w1 (w.heap.size + 1 + 1) [.int .i64 c0, .int .i64 c1, .int .i64 c2, .int .i64 c3, .int .i64 c4, .int .i64 c5, .int .i64 c6]) := ⟨HV.out.1.below hb HV.out.1.lt, HV.out.2.1.below hb HV.out.2.1.lt, HV.out.2.2.below hb HV.out.2.2.lt⟩
        clear a0' a1' a2' a3' a4' a5' a6' b0' b1' b2' b3' b4' b5' b6' c0' c1' c2' c3' c4' c5' c6' hb
        have a0' := HV.out.1.cell 0 rfl
        have a1' := HV.out.1.cell 1 rfl
        have a2' := HV.out.1.cell 2 rfl
        have a3' := HV.out.1.cell 3 rfl
        have a4' := HV.out.1.cell 4 rfl
        have a5' := HV.out.1.cell 5 rfl
        have a6' := HV.out.1.cell 6 rfl
        have b0' := HV.out.2.1.cell 0 rfl
        have b1' := HV.out.2.1.cell 1 rfl
        have b2' := HV.out.2.1.cell 2 rfl
        have b3' := HV.out.2.1.cell 3 rfl
        have b4' := HV.out.2.1.cell 4 rfl
        have b5' := HV.out.2.1.cell 5 rfl
        have b6' := HV.out.2.1.cell 6 rfl
        have c0' := HV.out.2.2.cell 0 rfl
        have c1' := HV.out.2.2.cell 1 rfl
        have c2' := HV.out.2.2.cell 2 rfl
        have c3' := HV.out.2.2.cell 3 rfl
        have c4' := HV.out.2.2.cell 4 rfl
        have c5' := HV.out.2.2.cell 5 rfl
        have c6' := HV.out.2.2.cell 6 rfl
        go_wp2_with fail
        refine (awake_any _).mono ?_
        rintro e w9 ⟨rfl, hb⟩
        go_wp2
        go_ret
        exact ⟨rfl, below_more HB.out hb HB.out.size⟩
      · have N1 : Hid (newI a0 a4 a5 b0 b4 b5 = 1) := t1
        clear t1
        go_wp2_with fail
        refine (cmp_at _ _ _ _ _ _ _ _ _ _ _ _ _ _ _ N1.out Ia.out Ib.out _).mono ?_
        rintro e w1 ⟨rfl, hb⟩
        replace HB : Hid (Below w.heap.size w w1) := below_more HB.out hb HB.out.size
        replace HV : Hid (Var w1 w.heap.size [.int .i64 a0, .int .i64 a1, .int .i64 a2, .int .i64 a3, .int .i64 a4, .int .i64 a5, .int .i64 a6] ∧ Var w1 (w.heap.size + 1) [.int .i64 b0, .int .i64 b1, .int .i64 b2, .int .i64 b3, .int .i64 b4, .int .i64 b5, .int .i64 b6] ∧ Var w1 (w.heap.size + 1 + 1) [.int .i64 c0, .int .i64 c1, .int .i64 c2, .int .i64 c3, .int .i64 c4, .int .i64 c5, .int .i64 c6]) := ⟨HV.out.1.below hb HV.out.1.lt, HV.out.2.1.below hb HV.out.2.1.lt, HV.out.2.2.below hb HV.out.2.2.lt⟩
        clear a0' a1' a2' a3' a4' a5' a6' b0' b1' b2' b3' b4' b5' b6' c0' c1' c2' c3' c4' c5' c6' hb
        have a0' := HV.out.1.cell 0 rfl
        have a1' := HV.out.1.cell 1 rfl
        have a2' := HV.out.1.cell 2 rfl
        have a3' := HV.out.1.cell 3 rfl
        have a4' := HV.out.1.cell 4 rfl
        have a5' := HV.out.1.cell 5 rfl
        have a6' := HV.out.1.cell 6 rfl
        have b0' := HV.out.2.1.cell 0 rfl
        have b1' := HV.out.2.1.cell 1 rfl
        have b2' := HV.out.2.1.cell 2 rfl
        have b3' := HV.out.2.1.cell 3 rfl
        have b4' := HV.out.2.1.cell 4 rfl
        have b5' := HV.out.2.1.cell 5 rfl
        have b6' := HV.out.2.1.cell 6 rfl
        have c0' := HV.out.2.2.cell 0 rfl
        have c1' := HV.out.2.2.cell 1 rfl
        have c2' := HV.out.2.2.cell 2 rfl
        have c3' := HV.out.2.2.cell 3 rfl
        have c4' := HV.out.2.2.cell 4 rfl
        have c5' := HV.out.2.2.cell 5 rfl
        have c6' := HV.out.2.2.cell 6 rfl
        rcases t2 with t2 | t2 | t2
        · have N2 : Hid (newI b0 b4 b5 c0 c4 c5 = -1) := t2
          clear t2
          go_wp2_with fail
          refine (cmp_at _ _ _ _ _ _ _ _ _ _ _ _ _ _ _ N2.out Ib.out Ic.out _).mono ?_
          rintro e w2 ⟨rfl, hb⟩
          replace HB : Hid (Below w.heap.size w w2) := below_more HB.out hb HB.out.size
          replace HV : Hid (Var w2 w.heap.size [.int .i64 a0, .int .i64 a1, .int .i64 a2, .int .i64 a3, .int .i64 a4, .int .i64 a5, .int .i64 a6] ∧ Var w2 (w.heap.size + 1) [.int .i64 b0, .int .i64 b1, .int .i64 b2, .int .i64 b3, .int .i64 b4, .int .i64 b5, .int .i64 b6] ∧ Var w2 (w.heap.size + 1 + 1) [.int .i64 c0, .int .i64 c1, .int .i64 c2, .int .i64 c3, .int .i64 c4, .int .i64 c5, .int .i64 c6]) := ⟨HV.out.1.below hb HV.out.1.lt, HV.out.2.1.below hb HV.out.2.1.lt, HV.out.2.2.below hb HV.out.2.2.lt⟩
          clear a0' a1' a2' a3' a4' a5' a6' b0' b1' b2' b3' b4' b5' b6' c0' c1' c2' c3' c4' c5' c6' hb
          have a0' := HV.out.1.cell 0 rfl
          have a1' := HV.out.1.cell 1 rfl
          have a2' := HV.out.1.cell 2 rfl
          have a3' := HV.out.1.cell 3 rfl
          have a4' := HV.out.1.cell 4 rfl
          have a5' := HV.out.1.cell 5 rfl
          have a6' := HV.out.1.cell 6 rfl
          have b0' := HV.out.2.1.cell 0 rfl
          have b1' := HV.out.2.1.cell 1 rfl
          have b2' := HV.out.2.1.cell 2 rfl
          have b3' := HV.out.2.1.cell 3 rfl
          have b4' := HV.out.2.1.cell 4 rfl
          have b5' := HV.out.2.1.cell 5 rfl
          have b6' := HV.out.2.1.cell 6 rfl
          have c0' := HV.out.2.2.cell 0 rfl
          have c1' := HV.out.2.2.cell 1 rfl
          have c2' := HV.out.2.2.cell 2 rfl
          have c3' := HV.out.2.2.cell 3 rfl
          have c4' := HV.out.2.2.cell 4 rfl
          have c5' := HV.out.2.2.cell 5 rfl
          have c6' := HV.out.2.2.cell 6 rfl
          go_wp2_with fail
          refine (awake_any _).mono ?_
          rintro e w9 ⟨rfl, hb⟩
          go_wp2
          go_ret
          exact ⟨rfl, below_more HB.out hb HB.out.size⟩
        · have N2 : Hid (newI b0 b4 b5 c0 c4 c5 = 0) := t2
          clear t2
          go_wp2_with fail
          refine (cmp_at _ _ _ _ _ _ _ _ _ _ _ _ _ _ _ N2.out Ib.out Ic.out _).mono ?_
          rintro e w2 ⟨rfl, hb⟩
          replace HB : Hid (Below w.heap.size w w2) := below_more HB.out hb HB.out.size
          replace HV : Hid (Var w2 w.heap.size [.int .i64 a0, .int .i64 a1, .int .i64 a2, .int .i64 a3, .int .i64 a4, .int .i64 a5, .int .i64 a6] ∧ Var w2 (w.heap.size + 1) [.int .i64 b0, .int .i64 b1, .int .i64 b2, .int .i64 b3, .int .i64 b4, .int .i64 b5, .int .i64 b6] ∧ Var w2 (w.heap.size + 1 + 1) [.int .i64 c0, .int .i64 c1, .int .i64 c2, .int .i64 c3, .int .i64 c4, .int .i64 c5, .int .i64 c6]) := ⟨HV.out.1.below hb HV.out.1.lt, HV.out.2.1.below hb HV.out.2.1.lt, HV.out.2.2.below hb HV.out.2.2.lt⟩
          clear a0' a1' a2' a3' a4' a5' a6' b0' b1' b2' b3' b4' b5' b6' c0' c1' c2' c3' c4' c5' c6' hb
          have a0' := HV.out.1.cell 0 rfl
          have a1' := HV.out.1.cell 1 rfl
          have a2' := HV.out.1.cell 2 rfl
          have a3' := HV.out.1.cell 3 rfl
          have a4' := HV.out.1.cell 4 rfl
          have a5' := HV.out.1.cell 5 rfl
          have a6' := HV.out.1.cell 6 rfl
          have b0' := HV.out.2.1.cell 0 rfl
          have b1' := HV.out.2.1.cell 1 rfl
          have b2' := HV.out.2.1.cell 2 rfl
          have b3' := HV.out.2.1.cell 3 rfl
          have b4' := HV.out.2.1.cell 4 rfl
          have b5' := HV.out.2.1.cell 5 rfl
          have b6' := HV.out.2.1.cell 6 rfl
          have c0' := HV.out.2.2.cell 0 rfl
          have c1' := HV.out.2.2.cell 1 rfl
          have c2' := HV.out.2.2.cell 2 rfl
          have c3' := HV.out.2.2.cell 3 rfl
          have c4' := HV.out.2.2.cell 4 rfl
          have c5' := HV.out.2.2.cell 5 rfl
          have c6' := HV.out.2.2.cell 6 rfl
          go_wp2_with fail
          refine (awake_any _).mono ?_
          rintro e w9 ⟨rfl, hb⟩
          go_wp2
          go_ret
          exact ⟨rfl, below_more HB.out hb HB.out.size⟩
        · have N2 : Hid (newI b0 b4 b5 c0 c4 c5 = 1) := t2
          clear t2
          have N3 : Hid (newI a0 a4 a5 c0 c4 c5 = 1) := newI_rows HH.out.1 HH.out.2 (by rw [N1.out]; decide) (by rw [N2.out]; decide)
          go_wp2_with fail
          refine (cmp_at _ _ _ _ _ _ _ _ _ _ _ _ _ _ _ N2.out Ib.out Ic.out _).mono ?_
          rintro e w2 ⟨rfl, hb⟩
          replace HB : Hid (Below w.heap.size w w2) := below_more HB.out hb HB.out.size
          replace HV : Hid (Var w2 w.heap.size [.int .i64 a0, .int .i64 a1, .int .i64 a2, .int .i64 a3, .int .i64 a4, .int .i64 a5, .int .i64 a6] ∧ Var w2 (w.heap.size + 1) [.int .i64 b0, .int .i64 b1, .int .i64 b2, .int .i64 b3, .int .i64 b4, .int .i64 b5, .int .i64 b6] ∧ Var w2 (w.heap.size + 1 + 1) [.int .i64 c0, .int .i64 c1, .int .i64 c2, .int .i64 c3, .int .i64 c4, .int .i64 c5, .int .i64 c6]) := ⟨HV.out.1.below hb HV.out.1.lt, HV.out.2.1.below hb HV.out.2.1.lt, HV.out.2.2.below hb HV.out.2.2.lt⟩
          clear a0' a1' a2' a3' a4' a5' a6' b0' b1' b2' b3' b4' b5' b6' c0' c1' c2' c3' c4' c5' c6' hb
          have a0' := HV.out.1.cell 0 rfl
          have a1' := HV.out.1.cell 1 rfl
          have a2' := HV.out.1.cell 2 rfl
          have a3' := HV.out.1.cell 3 rfl
          have a4' := HV.out.1.cell 4 rfl
          have a5' := HV.out.1.cell 5 rfl
          have a6' := HV.out.1.cell 6 rfl
          have b0' := HV.out.2.1.cell 0 rfl
          have b1' := HV.out.2.1.cell 1 rfl
          have b2' := HV.out.2.1.cell 2 rfl
          have b3' := HV.out.2.1.cell 3 rfl
          have b4' := HV.out.2.1.cell 4 rfl
          have b5' := HV.out.2.1.cell 5 rfl
          have b6' := HV.out.2.1.cell 6 rfl
          have c0' := HV.out.2.2.cell 0 rfl
          have c1' := HV.out.2.2.cell 1 rfl
          have c2' := HV.out.2.2.cell 2 rfl
          have c3' := HV.out.2.2.cell 3 rfl
          have c4' := HV.out.2.2.cell 4 rfl
          have c5' := HV.out.2.2.cell 5 rfl
          have c6' := HV.out.2.2.cell 6 rfl
          go_wp2_with fail
          refine (cmp_at _ _ _ _ _ _ _ _ _ _ _ _ _ _ _ N3.out Ia.out Ic.out _).mono ?_
          rintro e w3 ⟨rfl, hb⟩
          replace HB : Hid (Below w.heap.size w w3) := below_more HB.out hb HB.out.size
          replace HV : Hid (Var w3 w.heap.size [.int .i64 a0, .int .i64 a1, .int .i64 a2, .int .i64 a3, .int .i64 a4, .int .i64 a5, .int .i64 a6] ∧ Var w3 (w.heap.size + 1) [.int .i64 b0, .int .i64 b1, .int .i64 b2, .int .i64 b3, .int .i64 b4, .int .i64 b5, .int .i64 b6] ∧ Var w3 (w.heap.size + 1 + 1) [.int .i64 c0, .int .i64 c1, .int .i64 c2, .int .i64 c3, .int .i64 c4, .int .i64 c5, .int .i64 c6]) := ⟨HV.out.1.below hb HV.out.1.lt, HV.out.2.1.below hb HV.out.2.1.lt, HV.out.2.2.below hb HV.out.2.2.lt⟩
          clear a0' a1' a2' a3' a4' a5' a6' b0' b1' b2' b3' b4' b5' b6' c0' c1' c2' c3' c4' c5' c6' hb
          have a0' := HV.out.1.cell 0 rfl
          have a1' := HV.out.1.cell 1 rfl
          have a2' := HV.out.1.cell 2 rfl
          have a3' := HV.out.1.cell 3 rfl
          have a4' := HV.out.1.cell 4 rfl
          have a5' := HV.out.1.cell 5 rfl
          have a6' := HV.out.1.cell 6 rfl
          have b0' := HV.out.2.1.cell 0 rfl
          have b1' := HV.out.2.1.cell 1 rfl
          have b2' := HV.out.2.1.cell 2 rfl
          have b3' := HV.out.2.1.cell 3 rfl
          have b4' := HV.out.2.1.cell 4 rfl
          have b5' := HV.out.2.1.cell 5 rfl
          have b6' := HV.out.2.1.cell 6 rfl
          have c0' := HV.out.2.2.cell 0 rfl
          have c1' := HV.out.2.2.cell 1 rfl
          have c2' := HV.out.2.2.cell 2 rfl
          have c3' := HV.out.2.2.cell 3 rfl
          have c4' := HV.out.2.2.cell 4 rfl
          have c5' := HV.out.2.2.cell 5 rfl
          have c6' := HV.out.2.2.cell 6 rfl
          go_wp2_with fail
          refine (awake_any _).mono ?_
          rintro e w9 ⟨rfl, hb⟩
          go_wp2
          go_ret
          exact ⟨rfl, below_more HB.out hb HB.out.size⟩
    · exact absurd ⟨by simpa using q3, by simpa using q4⟩ h2
  · exact absurd ⟨by simpa using q1, by simpa using q2⟩ h1
end Go.Proofs.Ytphjffagjjkeeaa
