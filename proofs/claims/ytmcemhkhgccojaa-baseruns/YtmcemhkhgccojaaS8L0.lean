/- The document's example of layer 8; of no database: the walks. -/
import Derived.Test.YtmcemhkhgccojaaS8W10
namespace Go.Proofs.Ytmcemhkhgccojaa
open Go.RowKit
set_option linter.unusedVariables false

theorem mem_one {r x : Row} (h : r ∈ [x]) : r = x := by simpa using h
theorem cmpZ_gt {x y : Int} (h : y < x) : cmpZ x y = 1 := by unfold cmpZ; rw [if_neg (by omega), if_pos h]
theorem newI_seq {a s m a' s' m' : Int} (h : s' < s) : newI a s m a' s' m' = 1 := by unfold newI; rw [cmpZ_gt h]; simp
theorem posZ_one_at (r : Row) (k : KeyZ) (h : rk r = k) : posZ [r] k = 0 := by
  unfold posZ; rw [h, agZ_self, if_neg (by omega)]
set_option maxHeartbeats 3200000 in
theorem awake_any (w : World) : Calls Try.prog 6 #[] w fun e w' => e = .returned (.bool true) ∧ Below w.heap.size w w' := by
  have C1 := group_any 7 1 2
  have C2 := group_any 7 1 1
  go_enter Try.func6, Try.ntmps6
  go_wp2_with fail
  refine (new_any 5 w (by omega) (by omega)).mono ?_
  rintro e w1 ⟨rfl, rfl⟩
  have HK0 := new_keeps w 5
  have HB : Hid (Below w.heap.size w (w.alloc (.cells #[.int .i64 5, .slice none 0 0] 70))) := below_new' _ _
  have HK : Hid (Keeps (w.alloc (.cells #[.int .i64 5, .slice none 0 0] 70)) w.heap.size w.heap.size 5 (.slice none 0 0) []) := HK0
  clear HK0
  generalize w.alloc (.cells #[.int .i64 5, .slice none 0 0] 70) = W at *
  go_wp2_with fail
  refine (num_any _ _).mono ?_
  rintro e w1 ⟨rfl, rfl⟩
  go_wp2_with fail
  refine (C1 _ (by omega) (by omega) (by omega)).mono ?_
  rintro e w2 ⟨s1, rfl, hh, hn, hb⟩
  have HB2 : Hid (Below w.heap.size w w2) := below_more HB.out hb HB.out.size
  have HK2 : Hid (Keeps w2 w.heap.size w.heap.size 5 (.slice none 0 0) []) := HK.out.below hb
  have CP := put_ins w.heap.size w.heap.size 5 (.slice none 0 0) [] s1 (grpZ' 7 1 2) w2 HK2.out hh (grp_mid 7 1 2) hn HB2.out.size (grp_sealed (by omega) (by omega) (by omega)) rfl (by simp) (by simp) (insOk_end _ _ rfl)
  clear hb hh hn HK HB
  go_wp2_with fail
  refine CP.mono ?_
  rintro e w3 ⟨lv, s2, rfl, hk3, ht3, hh3⟩
  have HK3 : Hid (Keeps w3 w.heap.size w.heap.size 5 lv [(s2, grpZ' 7 1 2)]) := hk3
  have HB3 : Hid (Below w.heap.size w w3) := HB2.out.trans (ht3.below HB2.out.size (Nat.le_refl _) (fun k hk => by simp [Value.ownBlock] at hk))
  clear hk3 ht3 hh3 CP HK2 HB2
  go_wp2_with fail
  refine (C2 _ (by omega) (by omega) (by omega)).mono ?_
  rintro e w4 ⟨s3, rfl, hh, hn, hb⟩
  have HB4 : Hid (Below w.heap.size w w4) := below_more HB3.out hb HB3.out.size
  have HK4 : Hid (Keeps w4 w.heap.size w.heap.size 5 lv [(s2, grpZ' 7 1 2)]) := HK3.out.below hb
  have CQ := put_old w.heap.size w.heap.size 5 lv _ s3 (grpZ' 7 1 1) w4 HK4.out hh (grp_mid 7 1 1) hn 0 (s2, grpZ' 7 1 2) (posZ_one_at _ _ (by show keyZ _ = _; rw [grp_key, grp_key])) rfl (by show keyZ _ = _; rw [grp_key, grp_key]) (grp_sealed (by omega) (by omega) (by omega)) (by rw [newI_seq (by rw [grp_seq, grp_seq]; omega)]; omega)
  clear hb hh hn HK3 HB3
  go_wp2_with fail
  refine CQ.mono ?_
  rintro e w5 ⟨rfl, hb⟩
  have HB5 : Hid (Below w.heap.size w w5) := below_more HB4.out hb HB4.out.size
  have HK5 : Hid (Keeps w5 w.heap.size w.heap.size 5 lv [(s2, grpZ' 7 1 2)]) := HK4.out.below hb
  have CL := len_any _ _ _ _ _ w5 HK5.out
  clear hb HK4 HB4 CQ C1 C2
  go_wp2_with (first | (go_at_call 9; refine (num_any _ _).mono ?_; rintro e w' ⟨rfl, rfl⟩) | (go_at_call 19; refine CL.mono ?_; rintro e w' ⟨rfl, rfl⟩))
  go_ret
  exact ⟨rfl, HB5.out⟩
end Go.Proofs.Ytmcemhkhgccojaa
