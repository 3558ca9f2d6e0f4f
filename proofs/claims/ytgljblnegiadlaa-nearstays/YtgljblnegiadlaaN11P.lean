/- Who was heard: neighbors in plain data, how one stands to another, and their rows. -/
import Derived.Test.YtgljblnegiadlaaN11D
import Derived.Shelf.SlSortCmp.KitK
import Derived.Sort.WalkB2
import Derived.Sort.WalkB12
import Derived.Deep.LoopGhost
import Derived.Deep.Cut
import Derived.Deep.CutRange
import Derived.BigRegion
import Derived.Deep.RegionHeld3
namespace Go.Proofs.Ytgljblnegiadlaa
open Go.RowKit Go.Sort
set_option linter.unusedVariables false
set_option linter.unusedSectionVars false
variable [Inhabited NearZ]

abbrev nearA (n : NearZ) : Array Value := #[.int .i64 n.id, .int .i64 n.addr, .int .i64 n.prio, .int .i64 n.dr, .int .i64 n.bdr, .bool n.two, .int .i64 n.left]
def nearC (n : NearZ) : List Value := [.int .i64 n.id, .int .i64 n.addr, .int .i64 n.prio, .int .i64 n.dr, .int .i64 n.bdr, .bool n.two, .int .i64 n.left]
theorem nearC_length (n : NearZ) : (nearC n).length = 7 := rfl
theorem nearC_one (n : NearZ) : ∀ v ∈ nearC n, v.oneCell' = true := by
  intro v hv; simp [nearC] at hv; rcases hv with rfl | rfl | rfl | rfl | rfl | rfl | rfl <;> rfl
def cmpN (a b : NearZ) : Int := cmpZ a.id b.id
/-- One behind the other in the heap. -/
theorem grow_one (w : World) (o : Obj) : w.alloc o = grow w #[o] := alloc_eq_grow w o
theorem mixed11 : Try.prog.follows .mixedOrders = true := by kernel_rfl
set_option maxHeartbeats 1600000 in
theorem against_any (a : NearZ) (i v : Int) (h : cmpZ a.id i = v) (w : World) :
    Calls Try.prog 27 #[.agg (nearA a), .int .i64 i] w fun e w' => e = .returned (.int .i64 v) ∧ ∃ q os', w' = grow (w.drewN q) os' := by
  have CC := compare_at a.id i v h
  clear h
  go_enter Try.func27, Try.ntmps27
  go_wp2_with fail
  refine (CC _).mono ?_
  rintro e w' ⟨rfl, rfl⟩
  go_wp2
  go_ret
  exact ⟨rfl, 0, _, alloc_eq_grow _ _⟩
set_option maxHeartbeats 1600000 in
theorem order_any (a b : NearZ) (w : World) :
    Calls Try.prog 26 #[.agg (nearA a), .agg (nearA b)] w fun e w' => e = .returned (.int .i64 (cmpN a b)) ∧ ∃ q os', w' = grow (w.drewN q) os' := by
  have CC := against_any a b.id _ rfl
  unfold cmpN
  generalize cmpZ a.id b.id = V at *
  go_enter Try.func26, Try.ntmps26
  go_wp2_with fail
  refine (CC _).mono ?_
  rintro e w' ⟨rfl, q, os, rfl⟩
  go_wp2
  go_ret
  refine ⟨rfl, q, #[.cells (nearA a) 42, .cells (nearA b) 42] ++ os, ?_⟩
  rw [alloc_eq_grow, alloc_eq_grow, grow_grow]
  show grow (grow (w.drewN q) _) os = _
  rw [grow_grow]
  rfl
theorem cmpLays (g off size : Nat) (w : World) : CmpLays Try.prog 26 #[] nearC 7 cmpN g off size w := fun m os dk _ x y => order_any x y _
end Go.Proofs.Ytgljblnegiadlaa
