/- The document's example of layer 8; of no database: the walks. -/
import Derived.Test.YtibbhfmpgpkdaaaS8W10
namespace Go.Proofs.Ytibbhfmpgpkdaaa
open Go.RowKit
set_option linter.unusedVariables false

theorem mem_one {r x : Row} (h : r ∈ [x]) : r = x := by simpa using h
theorem cmpZ_gt {x y : Int} (h : y < x) : cmpZ x y = 1 := by unfold cmpZ; rw [if_neg (by omega), if_pos h]
theorem newI_seq {a s m a' s' m' : Int} (h : s' < s) : newI a s m a' s' m' = 1 := by unfold newI; rw [cmpZ_gt h]; simp
theorem posZ_one_at (r : Row) (k : KeyZ) (h : rk r = k) : posZ [r] k = 0 := by
  unfold posZ; rw [h, agZ_self, if_neg (by omega)]
set_option maxHeartbeats 3200000 in
theorem awake_any (w : World) : Calls Try.prog 9 #[] w fun e w' => e = .returned (.bool true) ∧ Below w.heap.size w w' := by
  have C1 := group_any 7 1 2
  have C2 := group_any 7 1 1
  go_enter Try.func9, Try.ntmps9
  go_wp2_with fail
  refine (new_any 5 w (by omega) (by omega)).mono ?_
  rintro e w1 ⟨rfl, rfl⟩
  have HK0 := new_keeps w 5
  have HB : Hid (Below w.heap.size w (w.alloc (.cells #[.int .i64 5, .slice none 0 0] 75))) := below_new' _ _
  have HK : Hid (Keeps (w.alloc (.cells #[.int .i64 5, .slice none 0 0] 75)) w.heap.size w.heap.size 5 (.slice none 0 0) []) := HK0
  clear HK0
  generalize w.alloc (.cells #[.int .i64 5, .slice none 0 0] 75) = W at *
  go_wp2_with fail
  refine (num_any _ _).mono ?_
  rintro e w1 ⟨rfl, rfl⟩
  go_wp2_with fail
  refine (C1 _ (by omega) (by omega) (by omega)).mono ?_
  rintro e w2 ⟨s1, rfl, hh, hn, hb⟩
  have HB2 : Hid (Below w.heap.size w w2) := below_more HB.out hb HB.out.size
  have HK2 : Hid (Keeps w2 w.heap.size w.heap.size 5 (.slice none 0 0) []) := HK.out.below hb
  have CP := put_ins w.heap.size w.heap.size 5 (.slice none 0 0) [] s1 (grpZ' 7 1 2) w2 HK2.out hh (grp_mid 7 1 2) hn HB2.out.size (grp_sealed (by omega) (by omega) (by omega)) rfl (by simp) (by simp) (insOk_end _ _ rfl)
  clear hb hh hn HK HB
  go_wp2_with fail
  refine CP.mono ?_
  rintro e w3 ⟨lv, s2, rfl, hk3, ht3, hh3⟩
  have HK3 : Hid (Keeps w3 w.heap.size w.heap.size 5 lv [(s2, grpZ' 7 1 2)]) := hk3
  have HB3 : Hid (Below w.heap.size w w3) := HB2.out.trans (ht3.below HB2.out.size (Nat.le_refl _) (fun k hk => by simp [Value.ownBlock] at hk))
  clear hk3 ht3 hh3 CP HK2 HB2
  go_wp2_with fail
  refine (C2 _ (by omega) (by omega) (by omega)).mono ?_
  rintro e w4 ⟨s3, rfl, hh, hn, hb⟩
  have HB4 : Hid (Below w.heap.size w w4) := below_more HB3.out hb HB3.out.size
  have HK4 : Hid (Keeps w4 w.heap.size w.heap.size 5 lv [(s2, grpZ' 7 1 2)]) := HK3.out.below hb
  have CQ := put_old w.heap.size w.heap.size 5 lv _ s3 (grpZ' 7 1 1) w4 HK4.out hh (grp_mid 7 1 1) hn 0 (s2, grpZ' 7 1 2) (posZ_one_at _ _ (by show keyZ _ = _; rw [grp_key, grp_key])) rfl (by show keyZ _ = _; rw [grp_key, grp_key]) (grp_sealed (by omega) (by omega) (by omega)) (by rw [newI_seq (by rw [grp_seq, grp_seq]; omega)]; omega)
  clear hb hh hn HK3 HB3
  go_wp2_with fail
  refine CQ.mono ?_
  rintro e w5 ⟨rfl, hb⟩
  have HB5 : Hid (Below w.heap.size w w5) := below_more HB4.out hb HB4.out.size
  have HK5 : Hid (Keeps w5 w.heap.size w.heap.size 5 lv [(s2, grpZ' 7 1 2)]) := HK4.out.below hb
  have CL := len_any _ _ _ _ _ w5 HK5.out
  clear hb HK4 HB4 CQ C1 C2
  go_wp2_with (first | (go_at_call 12; refine (num_any _ _).mono ?_; rintro e w' ⟨rfl, rfl⟩) | (go_at_call 22; refine CL.mono ?_; rintro e w' ⟨rfl, rfl⟩))
  go_ret
  exact ⟨rfl, HB5.out⟩
set_option maxHeartbeats 3200000 in
theorem baseNil_walk (s : Seats) (l : LsaZ) (k : KeyZ) (w : World) : Calls Try.prog 7 #[.agg (lsaA s l), .agg (keyV k)] w fun e w' => e = .returned (.bool true) ∧ Below w.heap.size w w' := by
  have HX : Hid (Box ((w.alloc (.cells (lsaA s l) 39)).alloc (.cells (keyV k) 41)) w.heap.size s l) := (box_new w s l).below ((Below.refl _ _).alloc (Nat.le_refl _) _) (by simp)
  have HY : Hid (Var ((w.alloc (.cells (lsaA s l) 39)).alloc (.cells (keyV k) 41)) (w.heap.size + 1) [.int .i64 k.kind, .int .i64 k.id, .int .i64 k.adv]) := by
    have := var_new (w.alloc (.cells (lsaA s l) 39)) [.int .i64 k.kind, .int .i64 k.id, .int .i64 k.adv] 41
    rw [size_new] at this; exact this
  have HB : Hid (Below w.heap.size w ((w.alloc (.cells (lsaA s l) 39)).alloc (.cells (keyV k) 41))) := (below_new' _ _).alloc (by simp) _
  go_enter Try.func7, Try.ntmps7
  go_upto_region 1 with fail
  generalize (w.alloc (.cells (lsaA s l) 39)).alloc (.cells (keyV k) 41) = W at *
  have d0 := HY.out.cell 0 rfl
  have d1 := HY.out.cell 1 rfl
  have d2 := HY.out.cell 2 rfl
  go_wp2_with fail
  refine (get_nil k _).mono ?_
  rintro e w2 ⟨rfl, hb⟩
  replace HX : Hid (Box w2 w.heap.size s l) := HX.out.below hb HX.out.lt
  replace HY : Hid (Var w2 (w.heap.size + 1) [.int .i64 k.kind, .int .i64 k.id, .int .i64 k.adv]) := HY.out.below hb HY.out.lt
  replace HB : Hid (Below w.heap.size w w2) := below_more HB.out hb HB.out.size
  clear hb d0 d1 d2
  have HX2 : Hid (Box (w2.alloc (.cells #[.int .i64 0, .int .i64 0, .int .i64 0, .int .i64 0, .int .i64 0, .int .i64 0, .int .i64 0, .int .i64 0, .slice none 0 0, .int .i64 0, .slice none 0 0, .slice none 0 0] 39)) w.heap.size s l) := HX.out.below (below_new' _ _) HX.out.lt
  replace HY : Hid (Var (w2.alloc (.cells #[.int .i64 0, .int .i64 0, .int .i64 0, .int .i64 0, .int .i64 0, .int .i64 0, .int .i64 0, .int .i64 0, .slice none 0 0, .int .i64 0, .slice none 0 0, .slice none 0 0] 39)) (w.heap.size + 1) [.int .i64 k.kind, .int .i64 k.id, .int .i64 k.adv]) := HY.out.alloc _
  replace HB : Hid (Below w.heap.size w (w2.alloc (.cells #[.int .i64 0, .int .i64 0, .int .i64 0, .int .i64 0, .int .i64 0, .int .i64 0, .int .i64 0, .int .i64 0, .slice none 0 0, .int .i64 0, .slice none 0 0, .slice none 0 0] 39))) := HB.out.alloc HB.out.size _
  clear HX
  go_upto_region 3 with fail
  generalize w2.alloc (.cells #[.int .i64 0, .int .i64 0, .int .i64 0, .int .i64 0, .int .i64 0, .int .i64 0, .int .i64 0, .int .i64 0, .slice none 0 0, .int .i64 0, .slice none 0 0, .slice none 0 0] 39) = V at *
  obtain ⟨c0, c1, c2, c3, c4, c5, c6, c7, c8, c9, c10, c11⟩ := HX2.out
  go_wp2_with fail
  refine (put_nil s l _).mono ?_
  rintro e w3 ⟨rfl, hb⟩
  replace HY : Hid (Var w3 (w.heap.size + 1) [.int .i64 k.kind, .int .i64 k.id, .int .i64 k.adv]) := HY.out.below hb HY.out.lt
  replace HB : Hid (Below w.heap.size w w3) := below_more HB.out hb HB.out.size
  clear hb c0 c1 c2 c3 c4 c5 c6 c7 c8 c9 c10 c11 HX2
  have d0 := HY.out.cell 0 rfl
  have d1 := HY.out.cell 1 rfl
  have d2 := HY.out.cell 2 rfl
  go_wp2_with fail
  refine (num_any _ _).mono ?_
  rintro e w' ⟨rfl, rfl⟩
  go_wp2_with fail
  refine (drop_nil k _).mono ?_
  rintro e w4 ⟨rfl, hb⟩
  replace HB : Hid (Below w.heap.size w w4) := below_more HB.out hb HB.out.size
  clear hb d0 d1 d2 HY
  go_wp2_with fail
  refine (ball_nil _).mono ?_
  rintro e w' ⟨rfl, rfl⟩
  go_wp2_with fail
  refine (heads_nil _).mono ?_
  rintro e w' ⟨rfl, rfl⟩
  go_wp2_with fail
  refine (len_nil _).mono ?_
  rintro e w' ⟨rfl, rfl⟩
  go_wp2_with fail
  refine (copy_nil _).mono ?_
  rintro e w' ⟨rfl, rfl⟩
  go_wp2_with fail
  refine (awake_any _).mono ?_
  rintro e w5 ⟨rfl, hb⟩
  have HB5 : Hid (Below w.heap.size w w5) := below_more HB.out hb HB.out.size
  clear hb
  go_wp2
  go_ret
  exact ⟨rfl, HB5.out⟩
end Go.Proofs.Ytibbhfmpgpkdaaa
