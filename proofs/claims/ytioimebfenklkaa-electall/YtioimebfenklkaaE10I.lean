/- Who is designated is the document's. -/
import Derived.Test.YtioimebfenklkaaE10H
import Derived.Test.YtioimebfenklkaaE10B
namespace Go.Proofs.Ytioimebfenklkaa
open Go.RowKit
set_option linter.unusedVariables false

set_option maxHeartbeats 3200000 in
theorem electAll_walk (self : CandZ) (a : Option Addr) (cap : Nat) (l : List CandZ) (w : World) (hL : Lies w a (cellsOf candC l)) (hnil : a = none → cap = 0) (hm : l.length ≤ maxLen) :
    Calls Try.prog 3 #[.agg (candA self), .slice a l.length cap] w (Good w) := by
  have HX : Hid (Var (w.alloc (.cells (candA self) 23)) w.heap.size (candC self)) := var_new w (candC self) _
  have HB : Hid (Below w.heap.size w (w.alloc (.cells (candA self) 23))) := below_new' _ _
  have HL : Hid (Lies w a (cellsOf candC l)) := hL
  have HNIL : Hid (a = none → cap = 0) := hnil
  clear hL hnil
  by_cases h60 : 60 < l.length
  · go_enter Try.func3, Try.ntmps3
    go_wp2_with fail
    refine (awake_good _).mono ?_
    rintro e w1 hg
    have hg' := hg.more HB.out
    obtain ⟨rfl, -⟩ := hg
    go_wp2
    go_ret
    exact hg'
  have HN : Hid (l.length ≤ 60) := by show _ ≤ _; omega
  have CE := fun W (h : Below w.heap.size w W) => elect_any self a l.length cap l W rfl (HL.out.below h) (by have := HN.out; omega)
  have CF := fun W (h : Below w.heap.size w W) => relect_any self a l.length cap l W rfl (HL.out.below h) HNIL.out (by have := HN.out; omega)
  unfold ElectEnd at CE CF
  obtain ⟨p, q⟩ := electZ self l
  go_enter Try.func3, Try.ntmps3
  go_upto_region 3 with fail
  generalize w.alloc (.cells (candA self) 23) = W at *
  have d0 := HX.out.cell 0 rfl
  have d1 := HX.out.cell 1 rfl
  have d2 := HX.out.cell 2 rfl
  have d3 := HX.out.cell 3 rfl
  have d4 := HX.out.cell 4 rfl
  go_wp2_with fail
  refine (CE _ HB.out).mono ?_
  rintro e w1 ⟨rfl, hb⟩
  have HX1 := HX.out.below hb HX.out.lt
  have HB1 : Hid (Below w.heap.size w w1) := below_more HB.out hb HB.out.size
  clear d0 d1 d2 d3 d4 CE hb
  have d0 := HX1.cell 0 rfl
  have d1 := HX1.cell 1 rfl
  have d2 := HX1.cell 2 rfl
  have d3 := HX1.cell 3 rfl
  have d4 := HX1.cell 4 rfl
  go_wp2_with fail
  refine (CF _ HB1.out).mono ?_
  rintro e w2 ⟨rfl, hb⟩
  have HB2 : Hid (Below w.heap.size w w2) := below_more HB1.out hb HB1.out.size
  clear hb d0 d1 d2 d3 d4
  go_wp2_with fail
  refine (awake_good _).mono ?_
  rintro e w3 hg
  have hg' := hg.more HB2.out
  obtain ⟨rfl, -⟩ := hg
  go_wp2
  go_ret
  exact hg'
end Go.Proofs.Ytioimebfenklkaa
