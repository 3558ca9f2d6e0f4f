/- Which head is newer: contracts of the calls of package newer, and of the document's. -/
import Derived.Test.YtibbhfmpgpkdaaaVR
import Derived.Test.YtibbhfmpgpkdaaaS5W5
import Derived.Deep.QuietTactic
import Derived.BigQuiet
namespace Go.Proofs.Ytibbhfmpgpkdaaa
open Go.RowKit

theorem below_dr {N : Nat} {a w : World} (h : Below N a w) (n : Nat) : Below N a (w.drewN n) := h.trans ⟨rfl, rfl, rfl, Nat.le_refl _, fun _ _ => rfl⟩
def cmpZ (x y : Int) : Int := if x < y then -1 else if y < x then 1 else 0
def endZ (a : Int) : Int := if 3600 ≤ a then 1 else 0
def apZ (x y : Int) : Int := if x ≤ y then y - x else x - y
def sgZ (b : Bool) : Int := if b then 1 else -1
def In64 (x : Int) : Prop := -9223372036854775808 ≤ x ∧ x ≤ 9223372036854775807
theorem cmpZ_cases (x y : Int) : (cmpZ x y = -1 ∧ x < y) ∨ (cmpZ x y = 0 ∧ x = y) ∨ (cmpZ x y = 1 ∧ y < x) := by
  unfold cmpZ
  rcases Int.lt_trichotomy x y with h | h | h
  · exact .inl ⟨if_pos h, h⟩
  · subst h; exact .inr (.inl ⟨by simp, rfl⟩)
  · exact .inr (.inr ⟨by rw [if_neg (by omega), if_pos h], h⟩)

theorem nan_any (x : Int) (w : World) :
    Calls Try.prog 71 #[.int .i64 x] w fun e w' => e = .returned (.bool false) ∧ w' = w := by
  go_enter Try.func71, Try.ntmps71
  go_wp2
  go_ret
  first | exact ⟨rfl, rfl⟩ | exact ⟨ret_bool (by simp), rfl⟩
set_option maxHeartbeats 400000 in
theorem compare_at (x y v : Int) (h : cmpZ x y = v) (w : World) :
    Calls Try.prog 52 #[.int .i64 x, .int .i64 y] w fun e w' => e = .returned (.int .i64 v) ∧ w' = w := by
  have HV : Hid (cmpZ x y = v) := h
  clear h
  go_enter Try.func52, Try.ntmps52
  go_wp2_with fail
  refine (nan_any _ _).mono ?_
  rintro e w' ⟨rfl, rfl⟩
  go_wp2_with fail
  refine (nan_any _ _).mono ?_
  rintro e w' ⟨rfl, rfl⟩
  go_wp2
  all_goals go_ret
  all_goals (refine ⟨ret_int ?_, rfl⟩; rw [← HV.out]; unfold cmpZ; (repeat' split) <;> first | rfl | omega)
theorem ended_any (x : Int) (w : World) :
    Calls Try.prog 53 #[.int .i64 x] w fun e w' => e = .returned (.int .i64 (endZ x)) ∧ w' = w := by
  go_enter Try.func53, Try.ntmps53
  go_wp2
  all_goals go_ret
  all_goals (refine ⟨ret_int ?_, rfl⟩; unfold endZ; split <;> first | rfl | omega)
theorem sign_any (b : Bool) (w : World) :
    Calls Try.prog 57 #[.bool b] w fun e w' => e = .returned (.int .i64 (sgZ b)) ∧ w' = w := by
  cases b <;> go_enter Try.func57, Try.ntmps57 <;> go_wp2 <;> go_ret <;> exact ⟨rfl, rfl⟩
set_option maxHeartbeats 400000 in
theorem apart_at (x y p : Int) (hx : In64 x) (hy : In64 y) (h : apZ x y = p) (w : World) :
    Calls Try.prog 54 #[.int .i64 x, .int .i64 y] w fun e w' => e = .returned (.int .u64 p) ∧ w' = w := by
  have HV : Hid (apZ x y = p) := h
  have HX : Hid (In64 x) := hx
  have HY : Hid (In64 y) := hy
  clear h hx hy
  go_enter Try.func54, Try.ntmps54
  go_wp2
  all_goals go_ret
  all_goals (refine ⟨ret_int ?_, rfl⟩; rw [← HV.out]; obtain ⟨h1, h2⟩ := HX.out; obtain ⟨h3, h4⟩ := HY.out; unfold apZ; simp only [IntKind.wrap_u64] ; split <;> omega)
end Go.Proofs.Ytibbhfmpgpkdaaa
