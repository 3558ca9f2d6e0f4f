/- Which Key is ahead, as the document asks it. -/
import Derived.Test.YtmcemhkhgccojaaX8A
import Derived.Test.YtmcemhkhgccojaaY8A
namespace Go.Proofs.Ytmcemhkhgccojaa
open Go.RowKit
set_option linter.unusedVariables false

set_option maxHeartbeats 1600000 in
theorem less_any (a b : KeyZ) (w : World) : Calls Try.prog 39 #[.agg (keyV a), .agg (keyV b)] w fun e w' => e = .returned (.bool (decide (agZ a b < 0))) ∧ Below w.heap.size w w' := by
  have HX : Hid (Var ((w.alloc (.cells (keyV a) 41)).alloc (.cells (keyV b) 41)) w.heap.size [.int .i64 a.kind, .int .i64 a.id, .int .i64 a.adv]) := (var_new w [.int .i64 a.kind, .int .i64 a.id, .int .i64 a.adv] _).alloc _
  have HY : Hid (Var ((w.alloc (.cells (keyV a) 41)).alloc (.cells (keyV b) 41)) (w.heap.size + 1) [.int .i64 b.kind, .int .i64 b.id, .int .i64 b.adv]) := by
    have := var_new (w.alloc (.cells (keyV a) 41)) [.int .i64 b.kind, .int .i64 b.id, .int .i64 b.adv] 41
    rw [size_new] at this; exact this
  have HB : Hid (Below w.heap.size w ((w.alloc (.cells (keyV a) 41)).alloc (.cells (keyV b) 41))) := (below_new' _ _).alloc (by simp) _
  have HD : Hid (decide (agZ a b < 0) = decide (a.kind < b.kind ∨ (a.kind = b.kind ∧ (a.id < b.id ∨ (a.id = b.id ∧ a.adv < b.adv))))) := decide_eq_decide.2 agZ_neg
  generalize decide (agZ a b < 0) = R at *
  go_enter Try.func39, Try.ntmps39
  go_upto_region 1 with fail
  generalize (w.alloc (.cells (keyV a) 41)).alloc (.cells (keyV b) 41) = W at *
  have c0 := HX.out.cell 0 rfl
  have c1 := HX.out.cell 1 rfl
  have c2 := HX.out.cell 2 rfl
  have d0 := HY.out.cell 0 rfl
  have d1 := HY.out.cell 1 rfl
  have d2 := HY.out.cell 2 rfl
  by_cases h1 : a.kind = b.kind
  · by_cases h2 : a.id = b.id
    · have e1 : (a.kind != b.kind) = false := by simp [h1]
      have e2 : (a.id != b.id) = false := by simp [h2]
      have HR : Hid (R = decide (a.adv < b.adv)) := HD.out.trans (decide_eq_decide.2 ⟨fun h => by omega, fun h => by omega⟩)
      clear h1 h2 HD
      go_wp2
      go_ret
      exact ⟨ret_bool HR.out.symm, HB.out⟩
    · have e1 : (a.kind != b.kind) = false := by simp [h1]
      have e2 : (a.id != b.id) = true := by simp [h2]
      have HR : Hid (R = decide (a.id < b.id)) := HD.out.trans (decide_eq_decide.2 ⟨fun h => by omega, fun h => by omega⟩)
      clear h1 h2 HD
      go_wp2
      go_ret
      exact ⟨ret_bool HR.out.symm, HB.out⟩
  · have e1 : (a.kind != b.kind) = true := by simp [h1]
    have HR : Hid (R = decide (a.kind < b.kind)) := HD.out.trans (decide_eq_decide.2 ⟨fun h => by omega, fun h => by omega⟩)
    clear h1 HD
    go_wp2
    go_ret
    exact ⟨ret_bool HR.out.symm, HB.out⟩
end Go.Proofs.Ytmcemhkhgccojaa
