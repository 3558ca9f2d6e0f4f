/- What is right: the calls that ask one number, one link, one vertex, one head. -/
import Derived.Test.YtoanjhccbmifmaaDoorBT
import Derived.Test.YtoanjhccbmifmaaDoorS5P
import Derived.Below
namespace Go.Proofs.YtoanjhccbmifmaaDoor
open Go.RowKit

def kindsZ (a : Int) : Int := if a / 268435456 = 14 then 3 else if 0 ≤ a / 268435456 ∧ a / 268435456 ≤ 15 then 1 else 0
theorem or_0_2_1 : bits .or .i64 (bits .or .i64 0 2) 1 = 3 := by decide +kernel
theorem or_0_1 : bits .or .i64 0 1 = 1 := by decide +kernel
set_option maxHeartbeats 400000 in
theorem kinds_any (a : Int) (w : World) :
    Calls Tryd.prog 81 #[.int .i64 a] w fun e w' => e = .returned (.int .i64 (kindsZ a)) ∧ w' = w := by
  go_enter Tryd.func81, Tryd.ntmps81
  go_wp2
  · go_ret; exact ⟨ret_int (by rw [or_0_2_1, kindsZ, if_pos (by simpa using ‹(a / 268435456 == 14) = true›)]), rfl⟩
  all_goals have hne : ¬ a / 268435456 = 14 := by simpa using ‹(a / 268435456 == 14) = false›
  · go_ret; exact ⟨ret_int (by rw [or_0_1, kindsZ, if_neg hne, if_pos ⟨by assumption, by assumption⟩]), rfl⟩
  · go_ret; exact ⟨ret_int (by rw [kindsZ, if_neg hne, if_neg (by omega)]), rfl⟩
  · go_ret; exact ⟨ret_int (by rw [kindsZ, if_neg hne, if_neg (by omega)]), rfl⟩
theorem and_3_1 : bits .and .i64 3 1 = 1 := by decide +kernel
theorem and_1_1 : bits .and .i64 1 1 = 1 := by decide +kernel
theorem and_0_1 : bits .and .i64 0 1 = 0 := by decide +kernel
theorem kindsZ_right (a : Int) : (bits .and .i64 (kindsZ a) 1 != 0) = rightI a := by
  unfold kindsZ rightI
  by_cases h1 : a / 268435456 = 14
  · rw [if_pos h1, and_3_1]; rw [show decide (0 ≤ a ∧ a ≤ 4294967295) = true by simp; omega]; rfl
  · rw [if_neg h1]
    by_cases h2 : 0 ≤ a / 268435456 ∧ a / 268435456 ≤ 15
    · rw [if_pos h2, and_1_1]; rw [show decide (0 ≤ a ∧ a ≤ 4294967295) = true by simp; omega]; rfl
    · rw [if_neg h2, and_0_1]; rw [show decide (0 ≤ a ∧ a ≤ 4294967295) = false by simp; omega]; rfl
set_option maxHeartbeats 400000 in
theorem right_any (a : Int) (w : World) :
    Calls Tryd.prog 63 #[.int .i64 a] w fun e w' => e = .returned (.bool (rightI a)) ∧ w' = w := by
  go_enter Tryd.func63, Tryd.ntmps63
  go_wp2_with fail
  refine (kinds_any a w).mono ?_
  rintro e w' ⟨rfl, rfl⟩
  go_wp2
  go_ret
  exact ⟨ret_bool (kindsZ_right a), rfl⟩
theorem amongB_hi {n lo hi : Int} (h : lo ≤ n) : amongB n lo hi = decide (n ≤ hi) := by unfold amongB; simp [h]
theorem amongB_lo {n lo hi : Int} (h : ¬ lo ≤ n) : amongB n lo hi = false := by unfold amongB; simp [h]
theorem among_any (n lo hi : Int) (w : World) :
    Calls Tryd.prog 62 #[.int .i64 n, .int .i64 lo, .int .i64 hi] w fun e w' => e = .returned (.bool (amongB n lo hi)) ∧ w' = w := by
  by_cases h : lo ≤ n
  · have HA : Hid (amongB n lo hi = decide (n ≤ hi)) := amongB_hi h
    go_enter Tryd.func62, Tryd.ntmps62
    go_wp2
    go_ret
    exact ⟨ret_bool HA.out.symm, rfl⟩
  · have HA : Hid (amongB n lo hi = false) := amongB_lo h
    go_enter Tryd.func62, Tryd.ntmps62
    go_wp2
    go_ret
    exact ⟨ret_bool HA.out.symm, rfl⟩
theorem below_new' (w : World) (o : Obj) : Below w.heap.size w (w.alloc o) := (Below.refl _ _).alloc (Nat.le_refl _) _

set_option maxHeartbeats 800000 in
theorem rightLink_any (k : LinkZ) (w : World) :
    Calls Tryd.prog 83 #[.agg #[.int .i64 k.kind, .int .i64 k.id, .int .i64 k.data, .int .i64 k.cost]] w fun e w' => e = .returned (.bool (rightLinkB k)) ∧ Below w.heap.size w w' := by
  have HB : Hid (Below w.heap.size w (w.alloc (.cells #[.int .i64 k.kind, .int .i64 k.id, .int .i64 k.data, .int .i64 k.cost] 68))) := below_new' _ _
  have HE : Hid (rightLinkB k = (amongB k.kind 1 3 && rightI k.id && rightI k.data && amongB k.cost 0 65535)) := rfl
  generalize rightLinkB k = R at *
  go_enter Tryd.func83, Tryd.ntmps83
  go_wp2_with (first | (go_at_call 62; refine (among_any _ _ _ _).mono ?_; rintro e w' ⟨rfl, rfl⟩) | (go_at_call 63; refine (right_any _ _).mono ?_; rintro e w' ⟨rfl, rfl⟩))
  all_goals go_ret
  all_goals exact ⟨ret_bool (by rw [HE.out]; simp [*]), HB.out⟩
set_option maxHeartbeats 800000 in
theorem rightVert_any (k : VertZ) (w : World) :
    Calls Tryd.prog 86 #[.agg #[.int .i64 k.kind, .int .i64 k.id]] w fun e w' => e = .returned (.bool (rightVertB k)) ∧ Below w.heap.size w w' := by
  have HB : Hid (Below w.heap.size w (w.alloc (.cells #[.int .i64 k.kind, .int .i64 k.id] 58))) := below_new' _ _
  have HE : Hid (rightVertB k = (amongB k.kind 1 2 && rightI k.id)) := rfl
  generalize rightVertB k = R at *
  go_enter Tryd.func86, Tryd.ntmps86
  go_wp2_with (first | (go_at_call 62; refine (among_any _ _ _ _).mono ?_; rintro e w' ⟨rfl, rfl⟩) | (go_at_call 63; refine (right_any _ _).mono ?_; rintro e w' ⟨rfl, rfl⟩))
  all_goals go_ret
  all_goals exact ⟨ret_bool (by rw [HE.out]; simp [*]), HB.out⟩
set_option maxHeartbeats 800000 in
theorem rightHead_any (h : HeadZ) (w : World) :
    Calls Tryd.prog 37 #[.agg #[.int .i64 h.age, .int .i64 h.kind, .int .i64 h.id, .int .i64 h.adv, .int .i64 h.seq, .int .i64 h.sum, .int .i64 h.len]] w fun e w' => e = .returned (.bool (rightHeadB h)) ∧ Below w.heap.size w w' := by
  have HE : Hid (rightHeadB h = (amongB h.age 0 3600 && rightI h.id && rightI h.adv && (h.adv != 0) && amongB h.seq (-2147483647) 2147483647)) := rfl
  generalize rightHeadB h = R at *
  go_enter Tryd.func37, Tryd.ntmps37
  go_wp2_with (first | (go_at_call 62; refine (among_any _ _ _ _).mono ?_; rintro e w' ⟨rfl, rfl⟩) | (go_at_call 63; refine (right_any _ _).mono ?_; rintro e w' ⟨rfl, rfl⟩))
  all_goals go_ret
  all_goals exact ⟨ret_bool (by rw [HE.out]; simp [*]), below_new' _ _⟩
end Go.Proofs.YtoanjhccbmifmaaDoor
