/- Which head is newer: the call of package newer, and the document's. -/
import Derived.Test.YtmcemhkhgccojaaY8D
import Derived.Deep.Cut
namespace Go.Proofs.Ytmcemhkhgccojaa
open Go.RowKit

set_option maxHeartbeats 3200000 in
theorem cmp_i (a0 a1 a2 a3 a4 a5 a6 b0 b1 b2 b3 b4 b5 b6 : Int) (w : World) (ha : In64 a0) (hb : In64 b0) :
    Calls Try.prog 33 #[.agg #[.int .i64 a0, .int .i64 a1, .int .i64 a2, .int .i64 a3, .int .i64 a4, .int .i64 a5, .int .i64 a6], .agg #[.int .i64 b0, .int .i64 b1, .int .i64 b2, .int .i64 b3, .int .i64 b4, .int .i64 b5, .int .i64 b6]] w fun e w' => e = .returned (.int .i64 (newI a0 a4 a5 b0 b4 b5)) ∧ Below w.heap.size w w' := by
  have HA : Hid (In64 a0) := ha
  have HC : Hid (In64 b0) := hb
  have HN : Hid (newI a0 a4 a5 b0 b4 b5 = if cmpZ a4 b4 ≠ 0 then cmpZ a4 b4 else if cmpZ a5 b5 ≠ 0 then cmpZ a5 b5 else if cmpZ (endZ a0) (endZ b0) ≠ 0 then cmpZ (endZ a0) (endZ b0) else if 900 < apZ a0 b0 then cmpZ b0 a0 else 0) := rfl
  clear ha hb
  generalize hR : newI a0 a4 a5 b0 b4 b5 = R at *
  have HD : Hid (newI a0 a4 a5 b0 b4 b5 = R) := hR
  clear hR
  have V1 : Hid (Var ((w.alloc (.cells #[.int .i64 a0, .int .i64 a1, .int .i64 a2, .int .i64 a3, .int .i64 a4, .int .i64 a5, .int .i64 a6] 34)).alloc (.cells #[.int .i64 b0, .int .i64 b1, .int .i64 b2, .int .i64 b3, .int .i64 b4, .int .i64 b5, .int .i64 b6] 34)) w.heap.size [.int .i64 a0, .int .i64 a1, .int .i64 a2, .int .i64 a3, .int .i64 a4, .int .i64 a5, .int .i64 a6]) := (var_new w [.int .i64 a0, .int .i64 a1, .int .i64 a2, .int .i64 a3, .int .i64 a4, .int .i64 a5, .int .i64 a6] _).alloc _
  have V2 : Hid (Var ((w.alloc (.cells #[.int .i64 a0, .int .i64 a1, .int .i64 a2, .int .i64 a3, .int .i64 a4, .int .i64 a5, .int .i64 a6] 34)).alloc (.cells #[.int .i64 b0, .int .i64 b1, .int .i64 b2, .int .i64 b3, .int .i64 b4, .int .i64 b5, .int .i64 b6] 34)) (w.heap.size + 1) [.int .i64 b0, .int .i64 b1, .int .i64 b2, .int .i64 b3, .int .i64 b4, .int .i64 b5, .int .i64 b6]) := by
    have := var_new (w.alloc (.cells #[.int .i64 a0, .int .i64 a1, .int .i64 a2, .int .i64 a3, .int .i64 a4, .int .i64 a5, .int .i64 a6] 34)) [.int .i64 b0, .int .i64 b1, .int .i64 b2, .int .i64 b3, .int .i64 b4, .int .i64 b5, .int .i64 b6] 34
    rw [size_new] at this; exact this
  have HB : Hid (Below w.heap.size w ((w.alloc (.cells #[.int .i64 a0, .int .i64 a1, .int .i64 a2, .int .i64 a3, .int .i64 a4, .int .i64 a5, .int .i64 a6] 34)).alloc (.cells #[.int .i64 b0, .int .i64 b1, .int .i64 b2, .int .i64 b3, .int .i64 b4, .int .i64 b5, .int .i64 b6] 34))) := (below_new' _ _).alloc (by simp) _
  go_enter Try.func33, Try.ntmps33
  go_upto_region 1 with fail
  generalize ((w.alloc (.cells #[.int .i64 a0, .int .i64 a1, .int .i64 a2, .int .i64 a3, .int .i64 a4, .int .i64 a5, .int .i64 a6] 34)).alloc (.cells #[.int .i64 b0, .int .i64 b1, .int .i64 b2, .int .i64 b3, .int .i64 b4, .int .i64 b5, .int .i64 b6] 34)) = W at *
  have c0 := V1.out.cell 0 rfl
  have c4 := V1.out.cell 4 rfl
  have c5 := V1.out.cell 5 rfl
  have d0 := V2.out.cell 0 rfl
  have d4 := V2.out.cell 4 rfl
  have d5 := V2.out.cell 5 rfl
  rcases cmpZ_cases a4 b4 with ⟨e1, h1⟩ | ⟨e1, h1⟩ | ⟨e1, h1⟩
  · have E1 : Hid (cmpZ a4 b4 = -1) := e1
    clear e1 h1
    go_wp2_with fail
    refine (compare_at _ _ _ E1.out _).mono ?_
    rintro e w' ⟨rfl, rfl⟩
    go_wp2
    go_ret
    exact ⟨ret_int (by rw [HN.out, E1.out]; simp), HB.out⟩
  · have E1 : Hid (cmpZ a4 b4 = 0) := e1
    clear e1 h1
    go_wp2_with fail
    refine (compare_at _ _ _ E1.out _).mono ?_
    rintro e w' ⟨rfl, rfl⟩
    rcases cmpZ_cases a5 b5 with ⟨e2, h2⟩ | ⟨e2, h2⟩ | ⟨e2, h2⟩
    · have E2 : Hid (cmpZ a5 b5 = -1) := e2
      clear e2 h2
      go_wp2_with fail
      refine (compare_at _ _ _ E2.out _).mono ?_
      rintro e w' ⟨rfl, rfl⟩
      go_wp2
      go_ret
      exact ⟨ret_int (by rw [HN.out, E1.out, E2.out]; simp), HB.out⟩
    · have E2 : Hid (cmpZ a5 b5 = 0) := e2
      clear e2 h2
      go_wp2_with fail
      refine (compare_at _ _ _ E2.out _).mono ?_
      rintro e w' ⟨rfl, rfl⟩
      rcases cmpZ_cases (endZ a0) (endZ b0) with ⟨e3, h3⟩ | ⟨e3, h3⟩ | ⟨e3, h3⟩
      · have E3 : Hid (cmpZ (endZ a0) (endZ b0) = -1) := e3
        clear e3 h3
        go_upto_region 10 with fail
        go_quiet ((first | (go_at_call 50; exact Calls.quiet_of_same (ended_any _ _)) | (go_at_call 49; exact Calls.quiet_of_same (compare_at _ _ _ E3.out _))))
        go_wp2
        go_ret
        exact ⟨ret_int (by rw [HN.out, E1.out, E2.out, E3.out]; simp), below_dr HB.out _⟩
      · have E3 : Hid (cmpZ (endZ a0) (endZ b0) = 0) := e3
        clear e3 h3
        go_upto_region 10 with fail
        go_quiet ((first | (go_at_call 50; exact Calls.quiet_of_same (ended_any _ _)) | (go_at_call 49; exact Calls.quiet_of_same (compare_at _ _ _ E3.out _))))
        obtain ⟨p, hp⟩ : ∃ p, apZ a0 b0 = p := ⟨_, rfl⟩
        have E4 : Hid (apZ a0 b0 = p) := hp
        clear hp
        by_cases h9 : 900 < p
        · have E5 : Hid (900 < p) := h9
          go_wp2_with fail
          refine (apart_at _ _ _ HA.out HC.out E4.out _).mono ?_
          rintro e w' ⟨rfl, rfl⟩
          go_wp2_with fail
          refine (compare_at _ _ _ rfl _).mono ?_
          rintro e w' ⟨rfl, rfl⟩
          go_wp2
          go_ret
          exact ⟨ret_int (by rw [HN.out, E1.out, E2.out, E3.out, E4.out]; simp [E5.out]), below_dr HB.out _⟩
        · have E5 : Hid (¬ 900 < p) := h9
          go_wp2_with fail
          refine (apart_at _ _ _ HA.out HC.out E4.out _).mono ?_
          rintro e w' ⟨rfl, rfl⟩
          go_wp2
          go_ret
          exact ⟨ret_int (by rw [HN.out, E1.out, E2.out, E3.out, E4.out]; simp; intro h; exact absurd h (by have := E5.out; omega)), below_dr HB.out _⟩
      · have E3 : Hid (cmpZ (endZ a0) (endZ b0) = 1) := e3
        clear e3 h3
        go_upto_region 10 with fail
        go_quiet ((first | (go_at_call 50; exact Calls.quiet_of_same (ended_any _ _)) | (go_at_call 49; exact Calls.quiet_of_same (compare_at _ _ _ E3.out _))))
        go_wp2
        go_ret
        exact ⟨ret_int (by rw [HN.out, E1.out, E2.out, E3.out]; simp), below_dr HB.out _⟩
    · have E2 : Hid (cmpZ a5 b5 = 1) := e2
      clear e2 h2
      go_wp2_with fail
      refine (compare_at _ _ _ E2.out _).mono ?_
      rintro e w' ⟨rfl, rfl⟩
      go_wp2
      go_ret
      exact ⟨ret_int (by rw [HN.out, E1.out, E2.out]; simp), HB.out⟩
  · have E1 : Hid (cmpZ a4 b4 = 1) := e1
    clear e1 h1
    go_wp2_with fail
    refine (compare_at _ _ _ E1.out _).mono ?_
    rintro e w' ⟨rfl, rfl⟩
    go_wp2
    go_ret
    exact ⟨ret_int (by rw [HN.out, E1.out]; simp), HB.out⟩
end Go.Proofs.Ytmcemhkhgccojaa
