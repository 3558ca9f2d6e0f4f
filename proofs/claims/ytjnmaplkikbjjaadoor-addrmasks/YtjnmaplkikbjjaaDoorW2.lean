/- Contracts of package addr's Bits, and of the document's answer for it. -/
import Derived.Test.YtjnmaplkikbjjaaDoorW1
namespace Go.Proofs.YtjnmaplkikbjjaaDoor
open Go.RowKit

theorem bits_step (m : Int) (k : Nat) (hk : k < 33) (H : bitsZ m = bitsFrom m (33 - k) k) (h : ¬ maskN k = m) : bitsZ m = bitsFrom m (33 - (k + 1)) (k + 1) := by
  rw [H, show 33 - k = (33 - (k + 1)) + 1 by omega, bitsFrom_miss m _ k h]
theorem bits_stop (m : Int) (k : Nat) (hk : k < 33) (H : bitsZ m = bitsFrom m (33 - k) k) (h : maskN k = m) : bitsZ m = k := by
  rw [H, show 33 - k = (33 - (k + 1)) + 1 by omega, bitsFrom_hit m _ k h]

set_option maxHeartbeats 800000 in
theorem bits_any (m : Int) (w : World) :
    Calls Tryd.prog 18 #[.int .i64 m] w fun e w' => e = .returned (.int .i64 (bitsZ m)) ∧ w' = w := by
  go_enter Tryd.func18, Tryd.ntmps18
  go_wp2
  go_loop [4] (fun i => ∃ k : Nat, k ≤ 33 ∧ i = .int .i64 k ∧ Hid (bitsZ m = bitsFrom m (33 - k) k)) (fun i => 33 - (intOf i).toNat)
  case atStart => exact ⟨0, by omega, rfl, rfl⟩
  case round =>
    obtain ⟨k, hk, rfl, H⟩ := hrel
    by_cases hlt : k < 33
    · go_wp2_with fail
      refine (mask_any _ _).mono ?_
      rintro e w' ⟨rfl, rfl⟩
      have e1 : maskN (clampN (k : Int)) = maskN k := by rw [clampN_of k (by omega) (by omega)]; rfl
      rw [e1]; clear e1
      by_cases hm : maskN k = m
      · have hb : (maskN k == m) = true := by simpa using hm
        have HM : Hid (maskN k = m) := hm
        clear hm
        go_wp2
        go_ret
        exact ⟨ret_int (bits_stop m k hlt H.out HM.out).symm, rfl⟩
      · have hb : (maskN k == m) = false := by simpa using hm
        go_wp2
        go_round
        case rel => exact ⟨k + 1, by omega, by go_num, bits_step m k hlt H.out hm⟩
        case measure => simp [intOf]; omega
    · go_wp2
      go_ret
      exact ⟨ret_int (by rw [H.out, show 33 - k = 0 by omega]; rfl), rfl⟩

set_option maxHeartbeats 800000 in
theorem rbits_any (m : Int) (w : World) :
    Calls Tryd.prog 19 #[.int .i64 m] w fun e w' => e = .returned (.int .i64 (bitsZ m)) ∧ w' = w := by
  go_enter Tryd.func19, Tryd.ntmps19
  go_wp2
  go_loop [3] (fun i => ∃ k : Nat, k ≤ 33 ∧ i = .int .i64 k ∧ Hid (bitsZ m = bitsFrom m (33 - k) k)) (fun i => 33 - (intOf i).toNat)
  case atStart => exact ⟨0, by omega, rfl, rfl⟩
  case round =>
    obtain ⟨k, hk, rfl, H⟩ := hrel
    by_cases hlt : k < 33
    · go_wp2_with fail
      refine (rmask_any _ _).mono ?_
      rintro e w' ⟨rfl, rfl⟩
      have e1 : maskN (clampN (k : Int)) = maskN k := by rw [clampN_of k (by omega) (by omega)]; rfl
      rw [e1]; clear e1
      by_cases hm : maskN k = m
      · have hb : (maskN k == m) = true := by simpa using hm
        have HM : Hid (maskN k = m) := hm
        clear hm
        go_wp2
        go_ret
        exact ⟨ret_int (bits_stop m k hlt H.out HM.out).symm, rfl⟩
      · have hb : (maskN k == m) = false := by simpa using hm
        go_wp2
        go_round
        case rel => exact ⟨k + 1, by omega, by go_num, bits_step m k hlt H.out hm⟩
        case measure => simp [intOf]; omega
    · go_wp2
      go_ret
      exact ⟨ret_int (by rw [H.out, show 33 - k = 0 by omega]; rfl), rfl⟩
end Go.Proofs.YtjnmaplkikbjjaaDoor
