/- Contracts of the small calls of package addr, and of the document's answers for them: each only computes. -/
import Derived.Test.YtjnmaplkikbjjaaDoorRows
import Derived.Test.YtjnmaplkikbjjaaDoorP1
import Derived.WalkKit
import Derived.WalkSpells
namespace Go.Proofs.YtjnmaplkikbjjaaDoor
open Go.RowKit

theorem ret_int {k : IntKind} {a b : Int} (h : a = b) : Ending.returned (.int k a) = .returned (.int k b) := by rw [h]
theorem ret_bool {a b : Bool} (h : a = b) : Ending.returned (.bool a) = .returned (.bool b) := by rw [h]

/-- A number that is 0, 1 or 3: the kinds of an address. -/
def kindsZ (a : Int) : Int := if a / 268435456 = 14 then 3 else if 0 ≤ a / 268435456 ∧ a / 268435456 ≤ 15 then 1 else 0
theorem or_0_2_1 : bits .or .i64 (bits .or .i64 0 2) 1 = 3 := by decide +kernel
theorem or_0_1 : bits .or .i64 0 1 = 1 := by decide +kernel

set_option maxHeartbeats 400000 in
theorem kinds_any (a : Int) (w : World) :
    Calls Tryd.prog 29 #[.int .i64 a] w fun e w' => e = .returned (.int .i64 (kindsZ a)) ∧ w' = w := by
  go_enter Tryd.func29, Tryd.ntmps29
  go_wp2
  · go_ret; exact ⟨ret_int (by rw [or_0_2_1, kindsZ, if_pos (by simpa using ‹(a / 268435456 == 14) = true›)]), rfl⟩
  all_goals have hne : ¬ a / 268435456 = 14 := by simpa using ‹(a / 268435456 == 14) = false›
  · go_ret; exact ⟨ret_int (by rw [or_0_1, kindsZ, if_neg hne, if_pos ⟨by assumption, by assumption⟩]), rfl⟩
  · go_ret; exact ⟨ret_int (by rw [kindsZ, if_neg hne, if_neg (by omega)]), rfl⟩
  · go_ret; exact ⟨ret_int (by rw [kindsZ, if_neg hne, if_neg (by omega)]), rfl⟩

theorem and_3_1 : bits .and .i64 3 1 = 1 := by decide +kernel
theorem and_1_1 : bits .and .i64 1 1 = 1 := by decide +kernel
theorem and_0_1 : bits .and .i64 0 1 = 0 := by decide +kernel
theorem and_3_2 : bits .and .i64 3 2 = 2 := by decide +kernel
theorem and_1_2 : bits .and .i64 1 2 = 0 := by decide +kernel
theorem and_0_2 : bits .and .i64 0 2 = 0 := by decide +kernel

theorem kindsZ_right (a : Int) : (bits .and .i64 (kindsZ a) 1 != 0) = rightB a := by
  unfold kindsZ rightB
  by_cases h1 : a / 268435456 = 14
  · rw [if_pos h1, and_3_1]; rw [show decide (0 ≤ a ∧ a ≤ 4294967295) = true by simp; omega]; rfl
  · rw [if_neg h1]
    by_cases h2 : 0 ≤ a / 268435456 ∧ a / 268435456 ≤ 15
    · rw [if_pos h2, and_1_1]; rw [show decide (0 ≤ a ∧ a ≤ 4294967295) = true by simp; omega]; rfl
    · rw [if_neg h2, and_0_1]; rw [show decide (0 ≤ a ∧ a ≤ 4294967295) = false by simp; omega]; rfl
theorem kindsZ_multi (a : Int) : (bits .and .i64 (kindsZ a) 2 != 0) = multiB a := by
  unfold kindsZ multiB
  by_cases h1 : a / 268435456 = 14
  · rw [if_pos h1, and_3_2]; rw [show decide (3758096384 ≤ a ∧ a ≤ 4026531839) = true by simp; omega]; rfl
  · rw [if_neg h1]
    by_cases h2 : 0 ≤ a / 268435456 ∧ a / 268435456 ≤ 15
    · rw [if_pos h2, and_1_2]; rw [show decide (3758096384 ≤ a ∧ a ≤ 4026531839) = false by simp; omega]; rfl
    · rw [if_neg h2, and_0_2]; rw [show decide (3758096384 ≤ a ∧ a ≤ 4026531839) = false by simp; omega]; rfl

set_option maxHeartbeats 400000 in
theorem right_any (a : Int) (w : World) :
    Calls Tryd.prog 10 #[.int .i64 a] w fun e w' => e = .returned (.bool (rightB a)) ∧ w' = w := by
  go_enter Tryd.func10, Tryd.ntmps10
  go_wp2_with fail
  refine (kinds_any a w).mono ?_
  rintro e w' ⟨rfl, rfl⟩
  go_wp2
  go_ret
  exact ⟨ret_bool (kindsZ_right a), rfl⟩
set_option maxHeartbeats 400000 in
theorem multi_any (a : Int) (w : World) :
    Calls Tryd.prog 20 #[.int .i64 a] w fun e w' => e = .returned (.bool (multiB a)) ∧ w' = w := by
  go_enter Tryd.func20, Tryd.ntmps20
  go_wp2_with fail
  refine (kinds_any a w).mono ?_
  rintro e w' ⟨rfl, rfl⟩
  go_wp2
  go_ret
  exact ⟨ret_bool (kindsZ_multi a), rfl⟩

set_option maxHeartbeats 400000 in
theorem mask_any (a : Int) (w : World) :
    Calls Tryd.prog 12 #[.int .i64 a] w fun e w' => e = .returned (.int .i64 (maskN (clampN a))) ∧ w' = w := by
  by_cases h1 : 32 < a
  · have e1 := maskN_not 32 (by omega)
    go_enter Tryd.func12, Tryd.ntmps12
    go_wp2
    go_ret
    exact ⟨ret_int (by rw [clampN, if_pos h1]; exact e1), rfl⟩
  · by_cases h2 : 0 < a
    · go_enter Tryd.func12, Tryd.ntmps12
      go_wp2
      go_ret
      exact ⟨ret_int (by rw [clampN, if_neg (by omega)]; exact maskN_not _ (by omega)), rfl⟩
    · have e0 : clampN a = 0 := by unfold clampN; rw [if_neg h1]; omega
      go_enter Tryd.func12, Tryd.ntmps12
      go_wp2
      go_ret
      exact ⟨ret_int (maskN_not 0 (by omega)), rfl⟩

set_option maxHeartbeats 400000 in
theorem net_any (a b : Int) (w : World) :
    Calls Tryd.prog 14 #[.int .i64 a, .int .i64 b] w fun e w' => e = .returned (.int .i64 (netN a (clampN b))) ∧ w' = w := by
  go_enter Tryd.func14, Tryd.ntmps14
  go_wp2_with fail
  refine (mask_any b w).mono ?_
  rintro e w' ⟨rfl, rfl⟩
  go_wp2
  go_ret
  exact ⟨ret_int (and_mask a _ (clampN_le b)), rfl⟩

set_option maxHeartbeats 400000 in
theorem rmask_any (a : Int) (w : World) :
    Calls Tryd.prog 13 #[.int .i64 a] w fun e w' => e = .returned (.int .i64 (maskN (clampN a))) ∧ w' = w := by
  by_cases h1 : 32 < a
  · go_enter Tryd.func13, Tryd.ntmps13
    go_wp2
    go_ret
    exact ⟨ret_int (by rw [clampN, if_pos h1]; decide +kernel), rfl⟩
  · by_cases h2 : 0 < a
    · go_enter Tryd.func13, Tryd.ntmps13
      go_wp2
      go_ret
      exact ⟨ret_int (by rw [clampN, if_neg (by omega), show (32 - a).toNat = 32 - a.toNat by omega]; exact maskN_shl _ (by omega)), rfl⟩
    · have e0 : clampN a = 0 := by unfold clampN; rw [if_neg h1]; omega
      go_enter Tryd.func13, Tryd.ntmps13
      go_wp2
      go_ret
      exact ⟨ret_int (maskN_shl 0 (by omega)), rfl⟩

set_option maxHeartbeats 400000 in
theorem rnet_any (a b : Int) (w : World) :
    Calls Tryd.prog 15 #[.int .i64 a, .int .i64 b] w fun e w' => e = .returned (.int .i64 (netN a (clampN b))) ∧ w' = w := by
  go_enter Tryd.func15, Tryd.ntmps15
  go_wp2_with fail
  refine (rmask_any b w).mono ?_
  rintro e w' ⟨rfl, rfl⟩
  go_wp2
  go_ret
  exact ⟨ret_int (by rw [and_32, and_mask _ _ (clampN_le b), netN_low _ _ (clampN_le b)]), rfl⟩

set_option maxHeartbeats 400000 in
theorem rright_any (a : Int) (w : World) :
    Calls Tryd.prog 11 #[.int .i64 a] w fun e w' => e = .returned (.bool (rightB a)) ∧ w' = w := by
  by_cases h0 : 0 ≤ a
  · have hd : rightB a = decide (a ≤ 4294967295) := by unfold rightB; simp [h0]
    have HD : Hid (rightB a = decide (a ≤ 4294967295)) := hd
    clear hd
    go_enter Tryd.func11, Tryd.ntmps11
    go_wp2
    all_goals go_ret
    all_goals exact ⟨ret_bool (by rw [HD.out]), rfl⟩
  · have hd : rightB a = false := by unfold rightB; simp; omega
    have HD : Hid (rightB a = false) := hd
    clear hd
    go_enter Tryd.func11, Tryd.ntmps11
    go_wp2
    all_goals go_ret
    all_goals exact ⟨ret_bool (by rw [HD.out]), rfl⟩

set_option maxHeartbeats 400000 in
theorem rmulti_any (a : Int) (w : World) :
    Calls Tryd.prog 21 #[.int .i64 a] w fun e w' => e = .returned (.bool (multiB a)) ∧ w' = w := by
  go_enter Tryd.func21, Tryd.ntmps21
  go_wp2_with fail
  refine (rright_any a w).mono ?_
  rintro e w' ⟨rfl, rfl⟩
  cases hr : rightB a with
  | false =>
    go_wp2
    go_ret
    exact ⟨ret_bool (by unfold multiB; unfold rightB at hr; simp at hr ⊢; omega), rfl⟩
  | true =>
    go_wp2
    go_ret
    exact ⟨ret_bool (by unfold multiB; unfold rightB at hr; simp at hr; rw [Bool.eq_iff_iff]; simp; omega), rfl⟩

set_option maxHeartbeats 800000 in
theorem in_any (a p b : Int) (w : World) :
    Calls Tryd.prog 16 #[.int .i64 a, .int .i64 p, .int .i64 b] w fun e w' => e = .returned (.bool (inB a p b)) ∧ w' = w := by
  go_enter Tryd.func16, Tryd.ntmps16
  go_wp2_with fail
  refine (right_any a w).mono ?_
  rintro e w' ⟨rfl, rfl⟩
  cases hr : rightB a with
  | false =>
    go_wp2
    go_ret
    exact ⟨ret_bool (by simp [inB, hr]), rfl⟩
  | true =>
    go_wp2_with fail
    refine (right_any p _).mono ?_
    rintro e w' ⟨rfl, rfl⟩
    cases hp : rightB p with
    | false =>
      go_wp2
      go_ret
      exact ⟨ret_bool (by simp [inB, hp]), rfl⟩
    | true =>
      by_cases h0 : b < 0
      · go_wp2
        go_ret
        exact ⟨ret_bool (by simp [inB]; omega), rfl⟩
      · by_cases h1 : 32 < b
        · go_wp2
          go_ret
          exact ⟨ret_bool (by simp [inB]; omega), rfl⟩
        · go_wp2_with fail
          refine (net_any a b _).mono ?_
          rintro e w' ⟨rfl, rfl⟩
          go_wp2_with fail
          refine (net_any p b _).mono ?_
          rintro e w' ⟨rfl, rfl⟩
          go_wp2
          go_ret
          exact ⟨ret_bool (by rw [clampN_of b (by omega) (by omega)]; rw [Bool.eq_iff_iff]; simp [inB, hr, hp]; omega), rfl⟩

set_option maxHeartbeats 800000 in
theorem rin_any (a p b : Int) (w : World) :
    Calls Tryd.prog 17 #[.int .i64 a, .int .i64 p, .int .i64 b] w fun e w' => e = .returned (.bool (inB a p b)) ∧ w' = w := by
  go_enter Tryd.func17, Tryd.ntmps17
  go_wp2_with fail
  refine (rright_any a w).mono ?_
  rintro e w' ⟨rfl, rfl⟩
  cases hr : rightB a with
  | false =>
    go_wp2
    go_ret
    exact ⟨ret_bool (by simp [inB, hr]), rfl⟩
  | true =>
    go_wp2_with fail
    refine (rright_any p _).mono ?_
    rintro e w' ⟨rfl, rfl⟩
    cases hp : rightB p with
    | false =>
      go_wp2
      go_ret
      exact ⟨ret_bool (by simp [inB, hp]), rfl⟩
    | true =>
      by_cases h0 : 0 ≤ b
      · by_cases h1 : b ≤ 32
        · go_wp2_with fail
          refine (rnet_any a b _).mono ?_
          rintro e w' ⟨rfl, rfl⟩
          go_wp2_with fail
          refine (rnet_any p b _).mono ?_
          rintro e w' ⟨rfl, rfl⟩
          go_wp2
          go_ret
          exact ⟨ret_bool (by rw [clampN_of b (by omega) (by omega)]; rw [Bool.eq_iff_iff]; simp [inB, hr, hp]; omega), rfl⟩
        · go_wp2
          go_ret
          exact ⟨ret_bool (by simp [inB]; omega), rfl⟩
      · go_wp2
        go_ret
        exact ⟨ret_bool (by simp [inB]; omega), rfl⟩
end Go.Proofs.YtjnmaplkikbjjaaDoor
