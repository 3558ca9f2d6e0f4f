/- What is right: the calls that ask one number, one link, one vertex, one head. -/
import Derived.Test.YtibbhfmpgpkdaaaBT
import Derived.Test.YtibbhfmpgpkdaaaS5P
import Derived.Below
namespace Go.Proofs.Ytibbhfmpgpkdaaa
open Go.RowKit

def kindsZ (a : Int) : Int := if a / 268435456 = 14 then 3 else if 0 ≤ a / 268435456 ∧ a / 268435456 ≤ 15 then 1 else 0
theorem or_0_2_1 : bits .or .i64 (bits .or .i64 0 2) 1 = 3 := by decide +kernel
theorem or_0_1 : bits .or .i64 0 1 = 1 := by decide +kernel
set_option maxHeartbeats 400000 in
theorem kinds_any (a : Int) (w : World) :
    Calls Try.prog 85 #[.int .i64 a] w fun e w' => e = .returned (.int .i64 (kindsZ a)) ∧ w' = w := by
  go_enter Try.func85, Try.ntmps85
  go_wp2
  · go_ret; exact ⟨ret_int (by rw [or_0_2_1, kindsZ, if_pos (by simpa using ‹(a / 268435456 == 14) = true›)]), rfl⟩
  all_goals have hne : ¬ a / 268435456 = 14 := by simpa using ‹(a / 268435456 == 14) = false›
  · go_ret; exact ⟨ret_int (by rw [or_0_1, kindsZ, if_neg hne, if_pos ⟨by assumption, by assumption⟩]), rfl⟩
  · go_ret; exact ⟨ret_int (by rw [kindsZ, if_neg hne, if_neg (by omega)]), rfl⟩
  · go_ret; exact ⟨ret_int (by rw [kindsZ, if_neg hne, if_neg (by omega)]), rfl⟩
theorem and_3_1 : bits .and .i64 3 1 = 1 := by decide +kernel
theorem and_1_1 : bits .and .i64 1 1 = 1 := by decide +kernel
theorem and_0_1 : bits .and .i64 0 1 = 0 := by decide +kernel
theorem kindsZ_right (a : Int) : (bits .and .i64 (kindsZ a) 1 != 0) = rightI a := by
  unfold kindsZ rightI
  by_cases h1 : a / 268435456 = 14
  · rw [if_pos h1, and_3_1]; rw [show decide (0 ≤ a ∧ a ≤ 4294967295) = true by simp; omega]; rfl
  · rw [if_neg h1]
    by_cases h2 : 0 ≤ a / 268435456 ∧ a / 268435456 ≤ 15
    · rw [if_pos h2, and_1_1]; rw [show decide (0 ≤ a ∧ a ≤ 4294967295) = true by simp; omega]; rfl
    · rw [if_neg h2, and_0_1]; rw [show decide (0 ≤ a ∧ a ≤ 4294967295) = false by simp; omega]; rfl
set_option maxHeartbeats 400000 in
theorem right_any (a : Int) (w : World) :
    Calls Try.prog 75 #[.int .i64 a] w fun e w' => e = .returned (.bool (rightI a)) ∧ w' = w := by
  go_enter Try.func75, Try.ntmps75
  go_wp2_with fail
  refine (kinds_any a w).mono ?_
  rintro e w' ⟨rfl, rfl⟩
  go_wp2
  go_ret
  exact ⟨ret_bool (kindsZ_right a), rfl⟩
theorem amongB_hi {n lo hi : Int} (h : lo ≤ n) : amongB n lo hi = decide (n ≤ hi) := by unfold amongB; simp [h]
theorem amongB_lo {n lo hi : Int} (h : ¬ lo ≤ n) : amongB n lo hi = false := by unfold amongB; simp [h]
theorem among_any (n lo hi : Int) (w : World) :
    Calls Try.prog 74 #[.int .i64 n, .int .i64 lo, .int .i64 hi] w fun e w' => e = .returned (.bool (amongB n lo hi)) ∧ w' = w := by
  by_cases h : lo ≤ n
  · have HA : Hid (amongB n lo hi = decide (n ≤ hi)) := amongB_hi h
    go_enter Try.func74, Try.ntmps74
    go_wp2
    go_ret
    exact ⟨ret_bool HA.out.symm, rfl⟩
  · have HA : Hid (amongB n lo hi = false) := amongB_lo h
    go_enter Try.func74, Try.ntmps74
    go_wp2
    go_ret
    exact ⟨ret_bool HA.out.symm, rfl⟩
theorem below_new' (w : World) (o : Obj) : Below w.heap.size w (w.alloc o) := (Below.refl _ _).alloc (Nat.le_refl _) _

set_option maxHeartbeats 800000 in
theorem rightLink_any (k : LinkZ) (w : World) :
    Calls Try.prog 87 #[.agg #[.int .i64 k.kind, .int .i64 k.id, .int .i64 k.data, .int .i64 k.cost]] w fun e w' => e = .returned (.bool (rightLinkB k)) ∧ Below w.heap.size w w' := by
  have HB : Hid (Below w.heap.size w (w.alloc (.cells #[.int .i64 k.kind, .int .i64 k.id, .int .i64 k.data, .int .i64 k.cost] 96))) := below_new' _ _
  have HE : Hid (rightLinkB k = (amongB k.kind 1 3 && rightI k.id && rightI k.data && amongB k.cost 0 65535)) := rfl
  generalize rightLinkB k = R at *
  go_enter Try.func87, Try.ntmps87
  go_wp2_with (first | (go_at_call 74; refine (among_any _ _ _ _).mono ?_; rintro e w' ⟨rfl, rfl⟩) | (go_at_call 75; refine (right_any _ _).mono ?_; rintro e w' ⟨rfl, rfl⟩))
  all_goals go_ret
  all_goals exact ⟨ret_bool (by rw [HE.out]; simp [*]), HB.out⟩
set_option maxHeartbeats 800000 in
theorem rightVert_any (k : VertZ) (w : World) :
    Calls Try.prog 90 #[.agg #[.int .i64 k.kind, .int .i64 k.id]] w fun e w' => e = .returned (.bool (rightVertB k)) ∧ Below w.heap.size w w' := by
  have HB : Hid (Below w.heap.size w (w.alloc (.cells #[.int .i64 k.kind, .int .i64 k.id] 70))) := below_new' _ _
  have HE : Hid (rightVertB k = (amongB k.kind 1 2 && rightI k.id)) := rfl
  generalize rightVertB k = R at *
  go_enter Try.func90, Try.ntmps90
  go_wp2_with (first | (go_at_call 74; refine (among_any _ _ _ _).mono ?_; rintro e w' ⟨rfl, rfl⟩) | (go_at_call 75; refine (right_any _ _).mono ?_; rintro e w' ⟨rfl, rfl⟩))
  all_goals go_ret
  all_goals exact ⟨ret_bool (by rw [HE.out]; simp [*]), HB.out⟩
set_option maxHeartbeats 800000 in
theorem rightHead_any (h : HeadZ) (w : World) :
    Calls Try.prog 67 #[.agg #[.int .i64 h.age, .int .i64 h.kind, .int .i64 h.id, .int .i64 h.adv, .int .i64 h.seq, .int .i64 h.sum, .int .i64 h.len]] w fun e w' => e = .returned (.bool (rightHeadB h)) ∧ Below w.heap.size w w' := by
  have HE : Hid (rightHeadB h = (amongB h.age 0 3600 && rightI h.id && rightI h.adv && (h.adv != 0) && amongB h.seq (-2147483647) 2147483647)) := rfl
  generalize rightHeadB h = R at *
  go_enter Try.func67, Try.ntmps67
  go_wp2_with (first | (go_at_call 74; refine (among_any _ _ _ _).mono ?_; rintro e w' ⟨rfl, rfl⟩) | (go_at_call 75; refine (right_any _ _).mono ?_; rintro e w' ⟨rfl, rfl⟩))
  all_goals go_ret
  all_goals exact ⟨ret_bool (by rw [HE.out]; simp [*]), below_new' _ _⟩
end Go.Proofs.Ytibbhfmpgpkdaaa
