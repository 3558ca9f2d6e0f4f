/- Contracts of the small calls beneath package igmp, and of the document's: each only computes. -/
import Derived.Test.YtnnmaelnkoihjaaS2W1
import Derived.Test.YtnnmaelnkoihjaaS4P
namespace Go.Proofs.Ytnnmaelnkoihjaa
open Go.RowKit

/-- A number that is 0, 1 or 3: the kinds of an address. -/
def kindsZ (a : Int) : Int := if a / 268435456 = 14 then 3 else if 0 ≤ a / 268435456 ∧ a / 268435456 ≤ 15 then 1 else 0
theorem or_0_2_1 : bits .or .i64 (bits .or .i64 0 2) 1 = 3 := by decide +kernel
theorem or_0_1 : bits .or .i64 0 1 = 1 := by decide +kernel
set_option maxHeartbeats 400000 in
theorem kinds_any (a : Int) (w : World) :
    Calls Try.prog 29 #[.int .i64 a] w fun e w' => e = .returned (.int .i64 (kindsZ a)) ∧ w' = w := by
  go_enter Try.func29, Try.ntmps29
  go_wp2
  · go_ret; exact ⟨ret_int (by rw [or_0_2_1, kindsZ, if_pos (by simpa using ‹(a / 268435456 == 14) = true›)]), rfl⟩
  all_goals have hne : ¬ a / 268435456 = 14 := by simpa using ‹(a / 268435456 == 14) = false›
  · go_ret; exact ⟨ret_int (by rw [or_0_1, kindsZ, if_neg hne, if_pos ⟨by assumption, by assumption⟩]), rfl⟩
  · go_ret; exact ⟨ret_int (by rw [kindsZ, if_neg hne, if_neg (by omega)]), rfl⟩
  · go_ret; exact ⟨ret_int (by rw [kindsZ, if_neg hne, if_neg (by omega)]), rfl⟩
theorem and_3_2 : bits .and .i64 3 2 = 2 := by decide +kernel
theorem and_1_2 : bits .and .i64 1 2 = 0 := by decide +kernel
theorem and_0_2 : bits .and .i64 0 2 = 0 := by decide +kernel
theorem kindsZ_multi (a : Int) : (bits .and .i64 (kindsZ a) 2 != 0) = multiB a := by
  unfold kindsZ multiB
  by_cases h1 : a / 268435456 = 14
  · rw [if_pos h1, and_3_2]; simp [h1]
  · rw [if_neg h1]
    split
    · rw [and_1_2]; simp [h1]
    · rw [and_0_2]; simp [h1]
set_option maxHeartbeats 400000 in
theorem multi_any (a : Int) (w : World) :
    Calls Try.prog 25 #[.int .i64 a] w fun e w' => e = .returned (.bool (multiB a)) ∧ w' = w := by
  go_enter Try.func25, Try.ntmps25
  go_wp2_with fail
  refine (kinds_any a w).mono ?_
  rintro e w' ⟨rfl, rfl⟩
  go_wp2
  go_ret
  exact ⟨ret_bool (kindsZ_multi a), rfl⟩
set_option maxHeartbeats 400000 in
theorem rright_any (a : Int) (w : World) :
    Calls Try.prog 28 #[.int .i64 a] w fun e w' => e = .returned (.bool (rightI a)) ∧ w' = w := by
  by_cases h0 : 0 ≤ a
  · have hd : rightI a = decide (a ≤ 4294967295) := by unfold rightI; simp [h0]
    have HD : Hid (rightI a = decide (a ≤ 4294967295)) := hd
    clear hd
    go_enter Try.func28, Try.ntmps28
    go_wp2
    all_goals go_ret
    all_goals exact ⟨ret_bool (by rw [HD.out]), rfl⟩
  · have hd : rightI a = false := by unfold rightI; simp; omega
    have HD : Hid (rightI a = false) := hd
    clear hd
    go_enter Try.func28, Try.ntmps28
    go_wp2
    all_goals go_ret
    all_goals exact ⟨ret_bool (by rw [HD.out]), rfl⟩
theorem multi_right {a : Int} (h : rightI a = false) : multiB a = false := by
  unfold multiB rightI at *; simp at *; omega
set_option maxHeartbeats 400000 in
theorem rmulti_any (a : Int) (w : World) :
    Calls Try.prog 16 #[.int .i64 a] w fun e w' => e = .returned (.bool (multiB a)) ∧ w' = w := by
  have HF : Hid (rightI a = false → multiB a = false) := multi_right
  have HT : Hid (multiB a = (a / 268435456 == 14)) := by show _ = _; unfold multiB; rw [Bool.eq_iff_iff]; simp
  generalize multiB a = m at *
  go_enter Try.func16, Try.ntmps16
  go_wp2_with fail
  refine (rright_any a w).mono ?_
  rintro e w' ⟨rfl, rfl⟩
  cases h : rightI a with
  | false =>
    go_wp2
    go_ret
    exact ⟨ret_bool (HF.out h).symm, rfl⟩
  | true =>
    go_wp2
    all_goals go_ret
    all_goals exact ⟨ret_bool (by rw [HT.out]), rfl⟩
theorem num_any (k : Int) (w : World) : Calls Try.prog 12 #[.int .i64 k] w fun e w' => e = .returned (.int .i64 k) ∧ w' = w := by
  go_enter Try.func12, Try.ntmps12
  go_wp2
  go_ret
  exact ⟨rfl, rfl⟩
theorem codeZ_of {k : Int} (h1 : k ≠ 1) (h2 : k ≠ 2) (h3 : k ≠ 3) (h4 : k ≠ 4) : codeZ k = 0 := by unfold codeZ; simp [h1, h2, h3, h4]
set_option maxHeartbeats 400000 in
theorem code_any (k : Int) (w : World) : Calls Try.prog 15 #[.int .i64 k] w fun e w' => e = .returned (.int .i64 (codeZ k)) ∧ w' = w := by
  by_cases h1 : k = 1
  · subst h1
    go_enter Try.func15, Try.ntmps15
    go_wp2
    go_ret
    exact ⟨rfl, rfl⟩
  by_cases h2 : k = 2
  · subst h2
    go_enter Try.func15, Try.ntmps15
    go_wp2
    go_ret
    exact ⟨rfl, rfl⟩
  by_cases h3 : k = 3
  · subst h3
    go_enter Try.func15, Try.ntmps15
    go_wp2
    go_ret
    exact ⟨rfl, rfl⟩
  by_cases h4 : k = 4
  · subst h4
    go_enter Try.func15, Try.ntmps15
    go_wp2
    go_ret
    exact ⟨rfl, rfl⟩
  have HC : Hid (codeZ k = 0) := codeZ_of h1 h2 h3 h4
  have e1 : (k == 1) = false := by simp [h1]
  have e2 : (k == 2) = false := by simp [h2]
  have e3 : (k == 3) = false := by simp [h3]
  have e4 : (k == 4) = false := by simp [h4]
  clear h1 h2 h3 h4
  go_enter Try.func15, Try.ntmps15
  go_wp2
  go_ret
  exact ⟨ret_int HC.out.symm, rfl⟩
theorem kind_found {f : Int} {k : Nat} (h0 : 1 ≤ k) (h1 : k ≤ 4) (h : codeZ k = f) : kindZ f = k := by rw [← h]; exact kindZ_code k (by omega) (by omega)
theorem kind_none {f : Int} (h : ∀ j : Nat, 1 ≤ j → j < 5 → codeZ j ≠ f) : kindZ f = 0 := by
  have h1 := h 1 (by omega) (by omega)
  have h2 := h 2 (by omega) (by omega)
  have h3 := h 3 (by omega) (by omega)
  have h4 := h 4 (by omega) (by omega)
  have c1 : f ≠ 17 := fun e => h1 (by rw [e]; rfl)
  have c2 : f ≠ 18 := fun e => h2 (by rw [e]; rfl)
  have c3 : f ≠ 22 := fun e => h3 (by rw [e]; rfl)
  have c4 : f ≠ 23 := fun e => h4 (by rw [e]; rfl)
  unfold kindZ; simp [c1, c2, c3, c4]
set_option maxHeartbeats 400000 in
theorem kindOf_any (f : Int) (w : World) : Calls Try.prog 22 #[.int .i64 f] w fun e w' => e = .returned (.int .i64 (kindZ f)) ∧ w' = w := by
  go_enter Try.func22, Try.ntmps22
  go_wp2
  go_loop [3] (fun t => ∃ k : Nat, t = .int .i64 k ∧ 1 ≤ k ∧ k ≤ 5 ∧ Hid (∀ j : Nat, 1 ≤ j → j < k → codeZ j ≠ f)) (fun t => 6 - (intOf t).toNat)
  case atStart => exact ⟨1, rfl, by omega, by omega, fun j h1 h2 => by omega⟩
  case round =>
    obtain ⟨k, rfl, k1, k5, hno⟩ := hrel
    by_cases h4 : k ≤ 4
    · have hcode := code_any k w
      by_cases hc : codeZ k = f
      · have e1 : (codeZ k == f) = true := by simp [hc]
        have HK : Hid (kindZ f = k) := kind_found k1 h4 hc
        clear hc
        generalize codeZ k = c at *
        go_wp2_with fail
        refine hcode.mono ?_
        rintro e w' ⟨rfl, rfl⟩
        go_wp2
        go_ret
        exact ⟨ret_int HK.out.symm, rfl⟩
      · have e1 : (codeZ k == f) = false := by simp [hc]
        have HN : Hid (∀ j : Nat, 1 ≤ j → j < k + 1 → codeZ j ≠ f) := fun j j1 j2 => by
          by_cases e : j = k
          · subst e; exact hc
          · exact hno.out j j1 (by omega)
        clear hc
        generalize codeZ k = c at *
        go_wp2_with fail
        refine hcode.mono ?_
        rintro e w' ⟨rfl, rfl⟩
        go_wp2
        go_round
        case rel => exact ⟨k + 1, by go_num, by omega, by omega, HN.out⟩
        case measure => simp [intOf]; omega
    · obtain rfl : k = 5 := by omega
      have HK : Hid (kindZ f = 0) := kind_none hno.out
      clear hno
      go_wp2
      go_ret
      exact ⟨ret_int HK.out.symm, rfl⟩
end Go.Proofs.Ytnnmaelnkoihjaa
