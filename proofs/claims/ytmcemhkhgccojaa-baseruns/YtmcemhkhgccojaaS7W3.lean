/- Which head is newer: the call of package newer, and the document's. -/
import Derived.Test.YtmcemhkhgccojaaY8D
import Derived.Deep.Cut
namespace Go.Proofs.Ytmcemhkhgccojaa
open Go.RowKit

set_option maxHeartbeats 3200000 in
theorem rcmp_i (a0 a1 a2 a3 a4 a5 a6 b0 b1 b2 b3 b4 b5 b6 : Int) (w : World) (ha : In64 a0) (hb : In64 b0) :
    Calls Try.prog 38 #[.agg #[.int .i64 a0, .int .i64 a1, .int .i64 a2, .int .i64 a3, .int .i64 a4, .int .i64 a5, .int .i64 a6], .agg #[.int .i64 b0, .int .i64 b1, .int .i64 b2, .int .i64 b3, .int .i64 b4, .int .i64 b5, .int .i64 b6]] w fun e w' => e = .returned (.int .i64 (newI a0 a4 a5 b0 b4 b5)) ∧ Below w.heap.size w w' := by
  have HA : Hid (In64 a0) := ha
  have HC : Hid (In64 b0) := hb
  have HN : Hid (newI a0 a4 a5 b0 b4 b5 = if cmpZ a4 b4 ≠ 0 then cmpZ a4 b4 else if cmpZ a5 b5 ≠ 0 then cmpZ a5 b5 else if cmpZ (endZ a0) (endZ b0) ≠ 0 then cmpZ (endZ a0) (endZ b0) else if 900 < apZ a0 b0 then cmpZ b0 a0 else 0) := rfl
  clear ha hb
  generalize hR : newI a0 a4 a5 b0 b4 b5 = R at *
  have HD : Hid (newI a0 a4 a5 b0 b4 b5 = R) := hR
  clear hR
  have V1 : Hid (Var ((w.alloc (.cells #[.int .i64 a0, .int .i64 a1, .int .i64 a2, .int .i64 a3, .int .i64 a4, .int .i64 a5, .int .i64 a6] 34)).alloc (.cells #[.int .i64 b0, .int .i64 b1, .int .i64 b2, .int .i64 b3, .int .i64 b4, .int .i64 b5, .int .i64 b6] 34)) w.heap.size [.int .i64 a0, .int .i64 a1, .int .i64 a2, .int .i64 a3, .int .i64 a4, .int .i64 a5, .int .i64 a6]) := (var_new w [.int .i64 a0, .int .i64 a1, .int .i64 a2, .int .i64 a3, .int .i64 a4, .int .i64 a5, .int .i64 a6] _).alloc _
  have V2 : Hid (Var ((w.alloc (.cells #[.int .i64 a0, .int .i64 a1, .int .i64 a2, .int .i64 a3, .int .i64 a4, .int .i64 a5, .int .i64 a6] 34)).alloc (.cells #[.int .i64 b0, .int .i64 b1, .int .i64 b2, .int .i64 b3, .int .i64 b4, .int .i64 b5, .int .i64 b6] 34)) (w.heap.size + 1) [.int .i64 b0, .int .i64 b1, .int .i64 b2, .int .i64 b3, .int .i64 b4, .int .i64 b5, .int .i64 b6]) := by
    have := var_new (w.alloc (.cells #[.int .i64 a0, .int .i64 a1, .int .i64 a2, .int .i64 a3, .int .i64 a4, .int .i64 a5, .int .i64 a6] 34)) [.int .i64 b0, .int .i64 b1, .int .i64 b2, .int .i64 b3, .int .i64 b4, .int .i64 b5, .int .i64 b6] 34
    rw [size_new] at this; exact this
  have HB : Hid (Below w.heap.size w ((w.alloc (.cells #[.int .i64 a0, .int .i64 a1, .int .i64 a2, .int .i64 a3, .int .i64 a4, .int .i64 a5, .int .i64 a6] 34)).alloc (.cells #[.int .i64 b0, .int .i64 b1, .int .i64 b2, .int .i64 b3, .int .i64 b4, .int .i64 b5, .int .i64 b6] 34))) := (below_new' _ _).alloc (by simp) _
  go_enter Try.func38, Try.ntmps38
  go_upto_region 1 with fail
  generalize ((w.alloc (.cells #[.int .i64 a0, .int .i64 a1, .int .i64 a2, .int .i64 a3, .int .i64 a4, .int .i64 a5, .int .i64 a6] 34)).alloc (.cells #[.int .i64 b0, .int .i64 b1, .int .i64 b2, .int .i64 b3, .int .i64 b4, .int .i64 b5, .int .i64 b6] 34)) = W at *
  have c0 := V1.out.cell 0 rfl
  have c4 := V1.out.cell 4 rfl
  have c5 := V1.out.cell 5 rfl
  have d0 := V2.out.cell 0 rfl
  have d4 := V2.out.cell 4 rfl
  have d5 := V2.out.cell 5 rfl
  rcases cmpZ_cases a4 b4 with ⟨e1, h1⟩ | ⟨e1, h1⟩ | ⟨e1, h1⟩
  · have E1 : Hid (cmpZ a4 b4 = -1) := e1
    have q1 : (a4 != b4) = true := by simp; omega
    have q2 : decide (b4 < a4) = false := by simp; omega
    clear e1
    go_wp2_with fail
    refine (sign_any _ _).mono ?_
    rintro e w' ⟨rfl, rfl⟩
    go_wp2
    go_ret
    exact ⟨ret_int (by rw [HN.out]; simp [E1.out, sgZ]; try omega), HB.out⟩
  · subst h1
    have E1 : Hid (cmpZ a4 a4 = 0) := e1
    clear e1
    rcases cmpZ_cases a5 b5 with ⟨e2, h2⟩ | ⟨e2, h2⟩ | ⟨e2, h2⟩
    · have E2 : Hid (cmpZ a5 b5 = -1) := e2
      have q1 : (a5 != b5) = true := by simp; omega
      have q2 : decide (b5 < a5) = false := by simp; omega
      clear e2
      go_wp2_with fail
      refine (sign_any _ _).mono ?_
      rintro e w' ⟨rfl, rfl⟩
      go_wp2
      go_ret
      exact ⟨ret_int (by rw [HN.out]; simp [E1.out, E2.out, sgZ]; try omega), HB.out⟩
    · subst h2
      have E2 : Hid (cmpZ a5 a5 = 0) := e2
      clear e2
      by_cases hx : 3600 ≤ a0 <;> by_cases hy : 3600 ≤ b0
      · have hxd : decide (3600 ≤ a0) = true := by simp; omega
        have hyd : decide (3600 ≤ b0) = true := by simp; omega
        have HS : Hid (endZ a0 = endZ b0) := by show _ = _; simp [endZ, hx, hy]
        rcases Int.lt_trichotomy a0 b0 with h3 | h3 | h3
        · have hw : IntKind.u64.wrap (IntKind.u64.wrap b0 - IntKind.u64.wrap a0) = b0 - a0 := by obtain ⟨k1, k2⟩ := HA.out; obtain ⟨k3, k4⟩ := HC.out; simp only [IntKind.wrap_u64]; omega
          have g1 : decide (a0 < b0) = true := by simp; omega
          have g2 : decide (b0 < a0) = false := by simp; omega
          by_cases h9 : 900 < b0 - a0
          · have HR : Hid (R = 1) := by show _ = _; rw [← HD.out, newI_same _ _ _ _ HS.out]; unfold apZ cmpZ; (repeat' split) <;> omega
            clear HS HD HN
            go_upto_region 5 with fail
            go_quiet (fail)
            go_wp2
            all_goals go_ret
            exact ⟨ret_int HR.out.symm, below_dr HB.out _⟩
          · have HR : Hid (R = 0) := by show _ = _; rw [← HD.out, newI_same _ _ _ _ HS.out]; unfold apZ cmpZ; (repeat' split) <;> omega
            have h9d : decide (900 < b0 - a0) = false := by simp; omega
            clear HS HD HN
            go_upto_region 5 with fail
            go_quiet (fail)
            go_wp2
            all_goals go_ret
            exact ⟨ret_int HR.out.symm, below_dr HB.out _⟩
        · have HR : Hid (R = 0) := by show _ = _; rw [← HD.out, newI_same _ _ _ _ HS.out]; unfold apZ; (repeat' split) <;> omega
          subst h3
          clear HS HD HN
          go_upto_region 5 with fail
          go_quiet (fail)
          go_wp2
          all_goals go_ret
          exact ⟨ret_int HR.out.symm, below_dr HB.out _⟩
        · have hw : IntKind.u64.wrap (IntKind.u64.wrap a0 - IntKind.u64.wrap b0) = a0 - b0 := by obtain ⟨k1, k2⟩ := HA.out; obtain ⟨k3, k4⟩ := HC.out; simp only [IntKind.wrap_u64]; omega
          have g1 : decide (b0 < a0) = true := by simp; omega
          have g2 : decide (a0 < b0) = false := by simp; omega
          by_cases h9 : 900 < a0 - b0
          · have HR : Hid (R = -1) := by show _ = _; rw [← HD.out, newI_same _ _ _ _ HS.out]; unfold apZ cmpZ; (repeat' split) <;> omega
            clear HS HD HN
            go_upto_region 5 with fail
            go_quiet (fail)
            go_wp2
            all_goals go_ret
            exact ⟨ret_int HR.out.symm, below_dr HB.out _⟩
          · have HR : Hid (R = 0) := by show _ = _; rw [← HD.out, newI_same _ _ _ _ HS.out]; unfold apZ cmpZ; (repeat' split) <;> omega
            have h9d : decide (900 < a0 - b0) = false := by simp; omega
            clear HS HD HN
            go_upto_region 5 with fail
            go_quiet (fail)
            go_wp2
            all_goals go_ret
            exact ⟨ret_int HR.out.symm, below_dr HB.out _⟩
      · have hxd : decide (3600 ≤ a0) = true := by simp; omega
        have hyd : decide (3600 ≤ b0) = false := by simp; omega
        have HR : Hid (R = 1) := by show _ = _; rw [← HD.out]; exact newI_ep _ _ _ _ hx hy
        clear HD HN
        go_upto_region 5 with fail
        go_quiet (fail)
        go_wp2_with fail
        refine (sign_any _ _).mono ?_
        rintro e w' ⟨rfl, rfl⟩
        go_wp2
        go_ret
        exact ⟨ret_int (by rw [HR.out]; simp [sgZ]), below_dr HB.out _⟩
      · have hxd : decide (3600 ≤ a0) = false := by simp; omega
        have hyd : decide (3600 ≤ b0) = true := by simp; omega
        have HR : Hid (R = -1) := by show _ = _; rw [← HD.out]; exact newI_em _ _ _ _ hx hy
        clear HD HN
        go_upto_region 5 with fail
        go_quiet (fail)
        go_wp2_with fail
        refine (sign_any _ _).mono ?_
        rintro e w' ⟨rfl, rfl⟩
        go_wp2
        go_ret
        exact ⟨ret_int (by rw [HR.out]; simp [sgZ]), below_dr HB.out _⟩
      · have hxd : decide (3600 ≤ a0) = false := by simp; omega
        have hyd : decide (3600 ≤ b0) = false := by simp; omega
        have HS : Hid (endZ a0 = endZ b0) := by show _ = _; simp [endZ, hx, hy]
        rcases Int.lt_trichotomy a0 b0 with h3 | h3 | h3
        · have hw : IntKind.u64.wrap (IntKind.u64.wrap b0 - IntKind.u64.wrap a0) = b0 - a0 := by obtain ⟨k1, k2⟩ := HA.out; obtain ⟨k3, k4⟩ := HC.out; simp only [IntKind.wrap_u64]; omega
          have g1 : decide (a0 < b0) = true := by simp; omega
          have g2 : decide (b0 < a0) = false := by simp; omega
          by_cases h9 : 900 < b0 - a0
          · have HR : Hid (R = 1) := by show _ = _; rw [← HD.out, newI_same _ _ _ _ HS.out]; unfold apZ cmpZ; (repeat' split) <;> omega
            clear HS HD HN
            go_upto_region 5 with fail
            go_quiet (fail)
            go_wp2
            all_goals go_ret
            exact ⟨ret_int HR.out.symm, below_dr HB.out _⟩
          · have HR : Hid (R = 0) := by show _ = _; rw [← HD.out, newI_same _ _ _ _ HS.out]; unfold apZ cmpZ; (repeat' split) <;> omega
            have h9d : decide (900 < b0 - a0) = false := by simp; omega
            clear HS HD HN
            go_upto_region 5 with fail
            go_quiet (fail)
            go_wp2
            all_goals go_ret
            exact ⟨ret_int HR.out.symm, below_dr HB.out _⟩
        · have HR : Hid (R = 0) := by show _ = _; rw [← HD.out, newI_same _ _ _ _ HS.out]; unfold apZ; (repeat' split) <;> omega
          subst h3
          clear HS HD HN
          go_upto_region 5 with fail
          go_quiet (fail)
          go_wp2
          all_goals go_ret
          exact ⟨ret_int HR.out.symm, below_dr HB.out _⟩
        · have hw : IntKind.u64.wrap (IntKind.u64.wrap a0 - IntKind.u64.wrap b0) = a0 - b0 := by obtain ⟨k1, k2⟩ := HA.out; obtain ⟨k3, k4⟩ := HC.out; simp only [IntKind.wrap_u64]; omega
          have g1 : decide (b0 < a0) = true := by simp; omega
          have g2 : decide (a0 < b0) = false := by simp; omega
          by_cases h9 : 900 < a0 - b0
          · have HR : Hid (R = -1) := by show _ = _; rw [← HD.out, newI_same _ _ _ _ HS.out]; unfold apZ cmpZ; (repeat' split) <;> omega
            clear HS HD HN
            go_upto_region 5 with fail
            go_quiet (fail)
            go_wp2
            all_goals go_ret
            exact ⟨ret_int HR.out.symm, below_dr HB.out _⟩
          · have HR : Hid (R = 0) := by show _ = _; rw [← HD.out, newI_same _ _ _ _ HS.out]; unfold apZ cmpZ; (repeat' split) <;> omega
            have h9d : decide (900 < a0 - b0) = false := by simp; omega
            clear HS HD HN
            go_upto_region 5 with fail
            go_quiet (fail)
            go_wp2
            all_goals go_ret
            exact ⟨ret_int HR.out.symm, below_dr HB.out _⟩
    · have E2 : Hid (cmpZ a5 b5 = 1) := e2
      have q1 : (a5 != b5) = true := by simp; omega
      have q2 : decide (b5 < a5) = true := by simp; omega
      clear e2
      go_wp2_with fail
      refine (sign_any _ _).mono ?_
      rintro e w' ⟨rfl, rfl⟩
      go_wp2
      go_ret
      exact ⟨ret_int (by rw [HN.out]; simp [E1.out, E2.out, sgZ]; try omega), HB.out⟩
  · have E1 : Hid (cmpZ a4 b4 = 1) := e1
    have q1 : (a4 != b4) = true := by simp; omega
    have q2 : decide (b4 < a4) = true := by simp; omega
    clear e1
    go_wp2_with fail
    refine (sign_any _ _).mono ?_
    rintro e w' ⟨rfl, rfl⟩
    go_wp2
    go_ret
    exact ⟨ret_int (by rw [HN.out]; simp [E1.out, sgZ]; try omega), HB.out⟩
end Go.Proofs.Ytmcemhkhgccojaa
