/- The document's example; the calls at values that are named. -/
import Derived.Test.YtckehmjgimbepaaS7W2
import Derived.Test.YtckehmjgimbepaaS7W3
namespace Go.Proofs.Ytckehmjgimbepaa
open Go.RowKit

theorem cmp_at (a0 a1 a2 a3 a4 a5 a6 b0 b1 b2 b3 b4 b5 b6 v : Int) (h : newI a0 a4 a5 b0 b4 b5 = v) (ha : In64 a0) (hb : In64 b0) (w : World) :
    Calls Try.prog 7 #[.agg #[.int .i64 a0, .int .i64 a1, .int .i64 a2, .int .i64 a3, .int .i64 a4, .int .i64 a5, .int .i64 a6], .agg #[.int .i64 b0, .int .i64 b1, .int .i64 b2, .int .i64 b3, .int .i64 b4, .int .i64 b5, .int .i64 b6]] w fun e w' => e = .returned (.int .i64 v) ∧ Below w.heap.size w w' := by
  subst h; exact cmp_i _ _ _ _ _ _ _ _ _ _ _ _ _ _ w ha hb
theorem rcmp_at (a0 a1 a2 a3 a4 a5 a6 b0 b1 b2 b3 b4 b5 b6 v : Int) (h : newI a0 a4 a5 b0 b4 b5 = v) (ha : In64 a0) (hb : In64 b0) (w : World) :
    Calls Try.prog 8 #[.agg #[.int .i64 a0, .int .i64 a1, .int .i64 a2, .int .i64 a3, .int .i64 a4, .int .i64 a5, .int .i64 a6], .agg #[.int .i64 b0, .int .i64 b1, .int .i64 b2, .int .i64 b3, .int .i64 b4, .int .i64 b5, .int .i64 b6]] w fun e w' => e = .returned (.int .i64 v) ∧ Below w.heap.size w w' := by
  subst h; exact rcmp_i _ _ _ _ _ _ _ _ _ _ _ _ _ _ w ha hb
theorem in_0 : In64 0 := by unfold In64; omega
theorem new_2_1 : newI 0 2 0 0 1 0 = 1 := by decide
theorem awake_any (w : World) : Calls Try.prog 9 #[] w fun e w' => e = .returned (.bool true) ∧ Below w.heap.size w w' := by
  go_enter Try.func9, Try.ntmps9
  go_wp2_with fail
  refine (cmp_at 0 0 0 0 2 0 0 0 0 0 0 1 0 0 1 new_2_1 in_0 in_0 _).mono ?_
  rintro e w' ⟨rfl, hb⟩
  go_wp2
  go_ret
  exact ⟨rfl, hb⟩
end Go.Proofs.Ytckehmjgimbepaa
