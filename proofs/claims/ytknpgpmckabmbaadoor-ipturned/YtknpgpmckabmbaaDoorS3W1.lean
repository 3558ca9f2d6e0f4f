/- Contracts of the small calls beneath package ip, and of the document's: each only computes. -/
import Derived.Test.YtknpgpmckabmbaaDoorS2W1
import Derived.Test.YtknpgpmckabmbaaDoorS3P
import Derived.Test.YtknpgpmckabmbaaDoorAs2
namespace Go.Proofs.YtknpgpmckabmbaaDoor
open Go.RowKit

/-- A number that is 0, 1 or 3: the kinds of an address. -/
def kindsZ (a : Int) : Int := if a / 268435456 = 14 then 3 else if 0 ≤ a / 268435456 ∧ a / 268435456 ≤ 15 then 1 else 0
theorem or_0_2_1 : bits .or .i64 (bits .or .i64 0 2) 1 = 3 := by decide +kernel
theorem or_0_1 : bits .or .i64 0 1 = 1 := by decide +kernel
set_option maxHeartbeats 400000 in
theorem kinds_any (a : Int) (w : World) :
    Calls Tryd.prog 33 #[.int .i64 a] w fun e w' => e = .returned (.int .i64 (kindsZ a)) ∧ w' = w := by
  go_enter Tryd.func33, Tryd.ntmps33
  go_wp2
  · go_ret; exact ⟨ret_int (by rw [or_0_2_1, kindsZ, if_pos (by simpa using ‹(a / 268435456 == 14) = true›)]), rfl⟩
  all_goals have hne : ¬ a / 268435456 = 14 := by simpa using ‹(a / 268435456 == 14) = false›
  · go_ret; exact ⟨ret_int (by rw [or_0_1, kindsZ, if_neg hne, if_pos ⟨by assumption, by assumption⟩]), rfl⟩
  · go_ret; exact ⟨ret_int (by rw [kindsZ, if_neg hne, if_neg (by omega)]), rfl⟩
  · go_ret; exact ⟨ret_int (by rw [kindsZ, if_neg hne, if_neg (by omega)]), rfl⟩
theorem and_3_1 : bits .and .i64 3 1 = 1 := by decide +kernel
theorem and_1_1 : bits .and .i64 1 1 = 1 := by decide +kernel
theorem and_0_1 : bits .and .i64 0 1 = 0 := by decide +kernel
theorem kindsZ_right (a : Int) : (bits .and .i64 (kindsZ a) 1 != 0) = rightI a := by
  unfold kindsZ rightI
  by_cases h1 : a / 268435456 = 14
  · rw [if_pos h1, and_3_1]; rw [show decide (0 ≤ a ∧ a ≤ 4294967295) = true by simp; omega]; rfl
  · rw [if_neg h1]
    by_cases h2 : 0 ≤ a / 268435456 ∧ a / 268435456 ≤ 15
    · rw [if_pos h2, and_1_1]; rw [show decide (0 ≤ a ∧ a ≤ 4294967295) = true by simp; omega]; rfl
    · rw [if_neg h2, and_0_1]; rw [show decide (0 ≤ a ∧ a ≤ 4294967295) = false by simp; omega]; rfl
set_option maxHeartbeats 400000 in
theorem right_any (a : Int) (w : World) :
    Calls Tryd.prog 25 #[.int .i64 a] w fun e w' => e = .returned (.bool (rightI a)) ∧ w' = w := by
  go_enter Tryd.func25, Tryd.ntmps25
  go_wp2_with fail
  refine (kinds_any a w).mono ?_
  rintro e w' ⟨rfl, rfl⟩
  go_wp2
  go_ret
  exact ⟨ret_bool (kindsZ_right a), rfl⟩
set_option maxHeartbeats 400000 in
theorem rright_any (a : Int) (w : World) :
    Calls Tryd.prog 18 #[.int .i64 a] w fun e w' => e = .returned (.bool (rightI a)) ∧ w' = w := by
  by_cases h0 : 0 ≤ a
  · have hd : rightI a = decide (a ≤ 4294967295) := by unfold rightI; simp [h0]
    have HD : Hid (rightI a = decide (a ≤ 4294967295)) := hd
    clear hd
    go_enter Tryd.func18, Tryd.ntmps18
    go_wp2
    all_goals go_ret
    all_goals exact ⟨ret_bool (by rw [HD.out]), rfl⟩
  · have hd : rightI a = false := by unfold rightI; simp; omega
    have HD : Hid (rightI a = false) := hd
    clear hd
    go_enter Tryd.func18, Tryd.ntmps18
    go_wp2
    all_goals go_ret
    all_goals exact ⟨ret_bool (by rw [HD.out]), rfl⟩
def octB (n : Int) : Bool := decide (0 ≤ n ∧ n ≤ 255)
theorem octet_any (n : Int) (w : World) :
    Calls Tryd.prog 24 #[.int .i64 n] w fun e w' => e = .returned (.bool (octB n)) ∧ w' = w := by
  by_cases h0 : 0 ≤ n
  · have HD : Hid (octB n = decide (n ≤ 255)) := by show _ = _; unfold octB; simp [h0]
    go_enter Tryd.func24, Tryd.ntmps24
    go_wp2
    all_goals go_ret
    all_goals exact ⟨ret_bool (by rw [HD.out]), rfl⟩
  · have HD : Hid (octB n = false) := by show _ = _; unfold octB; simp; omega
    go_enter Tryd.func24, Tryd.ntmps24
    go_wp2
    all_goals go_ret
    all_goals exact ⟨ret_bool (by rw [HD.out]), rfl⟩
theorem num_any (k : Int) (w : World) : Calls Tryd.prog 13 #[.int .i64 k] w fun e w' => e = .returned (.int .i64 k) ∧ w' = w := by
  go_enter Tryd.func13, Tryd.ntmps13
  go_wp2
  go_ret
  exact ⟨rfl, rfl⟩
end Go.Proofs.YtknpgpmckabmbaaDoor
