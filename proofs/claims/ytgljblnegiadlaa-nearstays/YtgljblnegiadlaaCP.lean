/- cmp.Compare of numbers. -/
import Derived.Test.YtgljblnegiadlaaLI
import Derived.Deep.QuietTactic
import Derived.BigQuiet
import Derived.Deep.RegionHeld3
namespace Go.Proofs.Ytgljblnegiadlaa
open Go.RowKit

theorem below_dr {N : Nat} {a w : World} (h : Below N a w) (n : Nat) : Below N a (w.drewN n) := h.trans ⟨rfl, rfl, rfl, Nat.le_refl _, fun _ _ => rfl⟩
def cmpZ (x y : Int) : Int := if x < y then -1 else if y < x then 1 else 0
theorem cmpZ_cases (x y : Int) : (cmpZ x y = -1 ∧ x < y) ∨ (cmpZ x y = 0 ∧ x = y) ∨ (cmpZ x y = 1 ∧ y < x) := by
  unfold cmpZ
  rcases Int.lt_trichotomy x y with h | h | h
  · exact .inl ⟨if_pos h, h⟩
  · subst h; exact .inr (.inl ⟨by simp, rfl⟩)
  · exact .inr (.inr ⟨by rw [if_neg (by omega), if_pos h], h⟩)
theorem nan_any (x : Int) (w : World) :
    Calls Try.prog 37 #[.int .i64 x] w fun e w' => e = .returned (.bool false) ∧ w' = w := by
  go_enter Try.func37, Try.ntmps37
  go_wp2
  go_ret
  first | exact ⟨rfl, rfl⟩ | exact ⟨ret_bool (by simp), rfl⟩
set_option maxHeartbeats 400000 in
theorem compare_at (x y v : Int) (h : cmpZ x y = v) (w : World) :
    Calls Try.prog 33 #[.int .i64 x, .int .i64 y] w fun e w' => e = .returned (.int .i64 v) ∧ w' = w := by
  have HV : Hid (cmpZ x y = v) := h
  clear h
  go_enter Try.func33, Try.ntmps33
  go_wp2_with fail
  refine (nan_any _ _).mono ?_
  rintro e w' ⟨rfl, rfl⟩
  go_wp2_with fail
  refine (nan_any _ _).mono ?_
  rintro e w' ⟨rfl, rfl⟩
  go_wp2
  all_goals go_ret
  all_goals (refine ⟨ret_int ?_, rfl⟩; rw [← HV.out]; unfold cmpZ; (repeat' split) <;> first | rfl | omega)
end Go.Proofs.Ytgljblnegiadlaa
