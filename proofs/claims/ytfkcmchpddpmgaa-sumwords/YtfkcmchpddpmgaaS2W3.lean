/- The walk of SumAll. -/
import Derived.Test.YtfkcmchpddpmgaaS2W2
namespace Go.Proofs.Ytfkcmchpddpmgaa
open Go.RowKit

theorem below_two {a b c : World} (h : Below a.heap.size a b) (k : Below b.heap.size b c) : Below a.heap.size a c := h.trans (k.mono h.size)

set_option maxHeartbeats 400000 in
theorem sumAll_walk (a : Option Addr) (cap : Nat) (zs : List Int) (n : Int) (w : World) (hB : Bts w a zs) (hz : AreBytes zs) (hc : zs.length ≤ cap) (hm : zs.length ≤ maxLen) :
    Calls Try.prog 3 #[.slice a zs.length cap, .int .i64 n] w fun e w' => e = .returned (.bool true) ∧ Below w.heap.size w w' := by
  unfold maxLen at hm
  by_cases h5 : 5000 < zs.length
  · go_enter Try.func3, Try.ntmps3
    go_wp2
    go_ret
    exact ⟨rfl, Below.refl _ _⟩
  · go_enter Try.func3, Try.ntmps3
    go_wp2_with fail
    refine (inet_any a cap zs w hB hz hc (by omega)).mono ?_
    rintro e w1 ⟨rfl, hb1⟩
    have hB1 := hB.below hb1
    have HB1 : Hid (Below w.heap.size w w1) := hb1
    clear hb1 hB
    go_wp2_with fail
    refine (rinet_any a cap zs _ hB1 hz (by omega)).mono ?_
    rintro e w' ⟨rfl, rfl⟩
    go_wp2_with fail
    refine (pair_any a cap zs n _ hB1 hz (by omega)).mono ?_
    rintro e w' ⟨rfl, rfl⟩
    go_wp2_with fail
    refine (rpair_any a cap zs n _ hB1 hz (by omega)).mono ?_
    rintro e w' ⟨rfl, rfl⟩
    go_wp2_with fail
    refine (good_any a cap zs _ hB1 hz (by omega)).mono ?_
    rintro e w' ⟨rfl, rfl⟩
    go_wp2_with fail
    refine (rgood_any a cap zs _ hB1 hz (by omega)).mono ?_
    rintro e w' ⟨rfl, rfl⟩
    go_wp2_with fail
    refine (awake_any _).mono ?_
    rintro e w2 ⟨rfl, hb2⟩
    go_wp2
    go_ret
    exact ⟨rfl, below_two HB1.out hb2⟩
end Go.Proofs.Ytfkcmchpddpmgaa
