/- cmp.Compare and cmp.Or of numbers. -/
import Derived.Test.YtioimebfenklkaaLI
import Derived.Deep.QuietTactic
import Derived.BigQuiet
import Derived.Deep.RegionHeld3
namespace Go.Proofs.Ytioimebfenklkaa
open Go.RowKit

theorem below_dr {N : Nat} {a w : World} (h : Below N a w) (n : Nat) : Below N a (w.drewN n) := h.trans ⟨rfl, rfl, rfl, Nat.le_refl _, fun _ _ => rfl⟩
def cmpZ (x y : Int) : Int := if x < y then -1 else if y < x then 1 else 0
theorem cmpZ_cases (x y : Int) : (cmpZ x y = -1 ∧ x < y) ∨ (cmpZ x y = 0 ∧ x = y) ∨ (cmpZ x y = 1 ∧ y < x) := by
  unfold cmpZ
  rcases Int.lt_trichotomy x y with h | h | h
  · exact .inl ⟨if_pos h, h⟩
  · subst h; exact .inr (.inl ⟨by simp, rfl⟩)
  · exact .inr (.inr ⟨by rw [if_neg (by omega), if_pos h], h⟩)
theorem nan_any (x : Int) (w : World) :
    Calls Try.prog 27 #[.int .i64 x] w fun e w' => e = .returned (.bool false) ∧ w' = w := by
  go_enter Try.func27, Try.ntmps27
  go_wp2
  go_ret
  first | exact ⟨rfl, rfl⟩ | exact ⟨ret_bool (by simp), rfl⟩
set_option maxHeartbeats 400000 in
theorem compare_at (x y v : Int) (h : cmpZ x y = v) (w : World) :
    Calls Try.prog 26 #[.int .i64 x, .int .i64 y] w fun e w' => e = .returned (.int .i64 v) ∧ w' = w := by
  have HV : Hid (cmpZ x y = v) := h
  clear h
  go_enter Try.func26, Try.ntmps26
  go_wp2_with fail
  refine (nan_any _ _).mono ?_
  rintro e w' ⟨rfl, rfl⟩
  go_wp2_with fail
  refine (nan_any _ _).mono ?_
  rintro e w' ⟨rfl, rfl⟩
  go_wp2
  all_goals go_ret
  all_goals (refine ⟨ret_int ?_, rfl⟩; rw [← HV.out]; unfold cmpZ; (repeat' split) <;> first | rfl | omega)
def orZ : List Int → Int
  | [] => 0
  | x :: r => if x ≠ 0 then x else orZ r
theorem orZ_step {xs : List Int} {k : Nat} (hk : k < xs.length) : orZ (xs.drop k) = if xs[k] ≠ 0 then xs[k] else orZ (xs.drop (k + 1)) := by
  rw [List.drop_eq_getElem_cons hk]; rfl
set_option maxHeartbeats 800000 in
theorem or_any (a : Option Addr) (n cap : Nat) (xs : List Int) (w : World) (hn : n = xs.length) (hL : Lies w a (cellsOf intC xs)) (hl : xs.length ≤ 140737488355328) :
    Calls Try.prog 25 #[.slice a n cap] w fun e w' => e = .returned (.int .i64 (orZ xs)) ∧ w' = w := by
  subst hn
  go_enter Try.func25, Try.ntmps25
  go_wp2
  go_loop [8] (fun t => ∃ k : Nat, k ≤ xs.length ∧ t = .int .i64 k ∧ Hid (orZ xs = orZ (xs.drop k))) (fun t => xs.length - (intOf t).toNat)
  case atStart => exact ⟨0, by omega, rfl, rfl⟩
  case round =>
    obtain ⟨k, hk, rfl, H⟩ := hrel
    by_cases hlt : k < xs.length
    · obtain ⟨b, off, rfl, c0⟩ := Ints.cells hL k hlt
      have HS := H.out.trans (orZ_step hlt)
      have H2 : Hid (orZ xs = if xs[k] ≠ 0 then xs[k] else orZ (xs.drop (k + 1))) := HS
      clear HS
      generalize xs[k] = X at *
      go_wp2
      · go_ret
        exact ⟨ret_int (by rw [H2.out, if_pos (by simp_all)]), rfl⟩
      · go_round
        case rel => exact ⟨k + 1, by omega, by go_num, by show _ = _; rw [H2.out, if_neg (by simp_all)]⟩
        case measure => simp [intOf]; omega
    · clear hL
      go_wp2
      go_ret
      exact ⟨ret_int (by rw [H.out, List.drop_eq_nil_of_le (by omega)]; rfl), rfl⟩
theorem lies_three (W : World) (A B C : Int) : Lies (W.alloc (.cells #[.int .i64 A, .int .i64 B, .int .i64 C] 3)) (some ⟨W.heap.size, 0, none⟩) (cellsOf intC [A, B, C]) :=
  .inr ⟨W.heap.size, 0, rfl, fun i hi => by
    have hi' : i < 3 := hi
    have : i = 0 ∨ i = 1 ∨ i = 2 := by omega
    rcases this with rfl | rfl | rfl <;> simp [cellsOf, intC]⟩
end Go.Proofs.Ytioimebfenklkaa
