/- Calls of a database that there is not. -/
import Derived.Test.YtmcemhkhgccojaaX8B
namespace Go.Proofs.Ytmcemhkhgccojaa
open Go.RowKit
set_option linter.unusedVariables false

theorem ball_nil (w : World) : Calls Try.prog 21 #[.pointer none] w fun e w' => e = .returned (.slice none 0 0) ∧ w' = w := by
  go_enter Try.func21, Try.ntmps21
  go_wp2
  go_ret
  exact ⟨rfl, rfl⟩
theorem heads_nil (w : World) : Calls Try.prog 23 #[.pointer none] w fun e w' => e = .returned (.slice none 0 0) ∧ w' = w := by
  go_enter Try.func23, Try.ntmps23
  go_wp2
  go_ret
  exact ⟨rfl, rfl⟩
set_option maxHeartbeats 1600000 in
theorem get_nil (k : KeyZ) (w : World) : Calls Try.prog 13 #[.pointer none, .agg (keyV k)] w fun e w' => e = .returned (.tuple #[.agg zero12.toArray, .bool false]) ∧ Below w.heap.size w w' := by
  have HB : Hid (Below w.heap.size w ((w.alloc (.cells (keyV k) 41)).alloc (.cells zero12.toArray 39))) := (below_new' _ _).alloc (by simp) _
  have HK0 : Hid (Var ((w.alloc (.cells (keyV k) 41)).alloc (.cells zero12.toArray 39)) w.heap.size [.int .i64 k.kind, .int .i64 k.id, .int .i64 k.adv]) := (var_new w [.int .i64 k.kind, .int .i64 k.id, .int .i64 k.adv] _).alloc _
  have HR : Hid (Var ((w.alloc (.cells (keyV k) 41)).alloc (.cells zero12.toArray 39)) (w.heap.size + 1) zero12) := by
    have := var_new (w.alloc (.cells (keyV k) 41)) zero12 39
    rw [size_new] at this; exact this
  go_enter Try.func13, Try.ntmps13
  go_upto_region 1 with fail
  generalize (w.alloc (.cells (keyV k) 41)).alloc (.cells zero12.toArray 39) = W at *
  have d0 := HK0.out.cell 0 rfl
  have d1 := HK0.out.cell 1 rfl
  have d2 := HK0.out.cell 2 rfl
  go_wp2_with fail
  refine (find_nil k _).mono ?_
  rintro e w2 ⟨rfl, hb⟩
  replace HR : Hid (Var w2 (w.heap.size + 1) zero12) := HR.out.below hb HR.out.lt
  have HB2 : Hid (Below w.heap.size w w2) := below_more HB.out hb HB.out.size
  have K1 : Hid (Var ((((((((((((w2.setCell ⟨w.heap.size + 1, 0, none⟩ (.int .i64 0)).setCell ⟨w.heap.size + 1, 1, none⟩ (.int .i64 0)).setCell ⟨w.heap.size + 1, 2, none⟩ (.int .i64 0)).setCell ⟨w.heap.size + 1, 3, none⟩ (.int .i64 0)).setCell ⟨w.heap.size + 1, 4, none⟩ (.int .i64 0)).setCell ⟨w.heap.size + 1, 5, none⟩ (.int .i64 0)).setCell ⟨w.heap.size + 1, 6, none⟩ (.int .i64 0)).setCell ⟨w.heap.size + 1, 7, none⟩ (.int .i64 0)).setCell ⟨w.heap.size + 1, 8, none⟩ (.slice none 0 0)).setCell ⟨w.heap.size + 1, 9, none⟩ (.int .i64 0)).setCell ⟨w.heap.size + 1, 10, none⟩ (.slice none 0 0)).setCell ⟨w.heap.size + 1, 11, none⟩ (.slice none 0 0)) (w.heap.size + 1) [(.int .i64 0), (.int .i64 0), (.int .i64 0), (.int .i64 0), (.int .i64 0), (.int .i64 0), (.int .i64 0), (.int .i64 0), (.slice none 0 0), (.int .i64 0), (.slice none 0 0), (.slice none 0 0)]) := HR.out.put12 (.int .i64 0) (.int .i64 0) (.int .i64 0) (.int .i64 0) (.int .i64 0) (.int .i64 0) (.int .i64 0) (.int .i64 0) (.slice none 0 0) (.int .i64 0) (.slice none 0 0) (.slice none 0 0)
  have K2 : Hid (Below w.heap.size w ((((((((((((w2.setCell ⟨w.heap.size + 1, 0, none⟩ (.int .i64 0)).setCell ⟨w.heap.size + 1, 1, none⟩ (.int .i64 0)).setCell ⟨w.heap.size + 1, 2, none⟩ (.int .i64 0)).setCell ⟨w.heap.size + 1, 3, none⟩ (.int .i64 0)).setCell ⟨w.heap.size + 1, 4, none⟩ (.int .i64 0)).setCell ⟨w.heap.size + 1, 5, none⟩ (.int .i64 0)).setCell ⟨w.heap.size + 1, 6, none⟩ (.int .i64 0)).setCell ⟨w.heap.size + 1, 7, none⟩ (.int .i64 0)).setCell ⟨w.heap.size + 1, 8, none⟩ (.slice none 0 0)).setCell ⟨w.heap.size + 1, 9, none⟩ (.int .i64 0)).setCell ⟨w.heap.size + 1, 10, none⟩ (.slice none 0 0)).setCell ⟨w.heap.size + 1, 11, none⟩ (.slice none 0 0))) := below_put12 HB2.out (by omega) (.int .i64 0) (.int .i64 0) (.int .i64 0) (.int .i64 0) (.int .i64 0) (.int .i64 0) (.int .i64 0) (.int .i64 0) (.slice none 0 0) (.int .i64 0) (.slice none 0 0) (.slice none 0 0)
  clear hb d0 d1 d2
  have r0 := HR.out.cell 0 rfl
  have q0 := HR.out.frozen 0
  have r1 := HR.out.cell 1 rfl
  have q1 := HR.out.frozen 1
  have r2 := HR.out.cell 2 rfl
  have q2 := HR.out.frozen 2
  have r3 := HR.out.cell 3 rfl
  have q3 := HR.out.frozen 3
  have r4 := HR.out.cell 4 rfl
  have q4 := HR.out.frozen 4
  have r5 := HR.out.cell 5 rfl
  have q5 := HR.out.frozen 5
  have r6 := HR.out.cell 6 rfl
  have q6 := HR.out.frozen 6
  have r7 := HR.out.cell 7 rfl
  have q7 := HR.out.frozen 7
  have r8 := HR.out.cell 8 rfl
  have q8 := HR.out.frozen 8
  have r9 := HR.out.cell 9 rfl
  have q9 := HR.out.frozen 9
  have r10 := HR.out.cell 10 rfl
  have q10 := HR.out.frozen 10
  have r11 := HR.out.cell 11 rfl
  have q11 := HR.out.frozen 11
  go_wp2
  clear r0 q0 r1 q1 r2 q2 r3 q3 r4 q4 r5 q5 r6 q6 r7 q7 r8 q8 r9 q9 r10 q10 r11 q11
  generalize ((((((((((((w2.setCell ⟨w.heap.size + 1, 0, none⟩ (.int .i64 0)).setCell ⟨w.heap.size + 1, 1, none⟩ (.int .i64 0)).setCell ⟨w.heap.size + 1, 2, none⟩ (.int .i64 0)).setCell ⟨w.heap.size + 1, 3, none⟩ (.int .i64 0)).setCell ⟨w.heap.size + 1, 4, none⟩ (.int .i64 0)).setCell ⟨w.heap.size + 1, 5, none⟩ (.int .i64 0)).setCell ⟨w.heap.size + 1, 6, none⟩ (.int .i64 0)).setCell ⟨w.heap.size + 1, 7, none⟩ (.int .i64 0)).setCell ⟨w.heap.size + 1, 8, none⟩ (.slice none 0 0)).setCell ⟨w.heap.size + 1, 9, none⟩ (.int .i64 0)).setCell ⟨w.heap.size + 1, 10, none⟩ (.slice none 0 0)).setCell ⟨w.heap.size + 1, 11, none⟩ (.slice none 0 0)) = Z at *
  have c0 := K1.out.cell 0 rfl
  have c1 := K1.out.cell 1 rfl
  have c2 := K1.out.cell 2 rfl
  have c3 := K1.out.cell 3 rfl
  have c4 := K1.out.cell 4 rfl
  have c5 := K1.out.cell 5 rfl
  have c6 := K1.out.cell 6 rfl
  have c7 := K1.out.cell 7 rfl
  have c8 := K1.out.cell 8 rfl
  have c9 := K1.out.cell 9 rfl
  have c10 := K1.out.cell 10 rfl
  have c11 := K1.out.cell 11 rfl
  refine bodyPost_ret (by simp [results, Try.results13, go_sem, c0, c1, c2, c3, c4, c5, c6, c7, c8, c9, c10, c11]; try rfl) rfl ?_
  exact ⟨rfl, K2.out⟩
end Go.Proofs.Ytmcemhkhgccojaa
