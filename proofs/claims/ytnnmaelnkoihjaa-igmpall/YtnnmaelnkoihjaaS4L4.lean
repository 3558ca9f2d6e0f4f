/- The walk of IgmpAll. -/
import Derived.Test.YtnnmaelnkoihjaaS4R3
namespace Go.Proofs.Ytnnmaelnkoihjaa
open Go.RowKit

set_option maxHeartbeats 3200000 in
theorem igmpAll_walk (k t g : Int) (a : Option Addr) (cap : Nat) (zs : List Int) (w : World) (hB : Bts w a zs) (hz : AreBytes zs) (hc : zs.length ≤ cap) :
    Calls Try.prog 3 #[.agg #[.int .i64 k, .int .i64 t, .int .i64 g], .slice a zs.length cap] w fun e w' => e = .returned (.bool true) ∧ Below w.heap.size w w' := by
  have hb0 := below_new' w (.cells #[.int .i64 k, .int .i64 t, .int .i64 g] 23)
  have HB0 : Hid (Below w.heap.size w (w.alloc (.cells #[.int .i64 k, .int .i64 t, .int .i64 g] 23))) := hb0
  by_cases h1 : 100 < zs.length
  · clear hb0
    go_enter Try.func3, Try.ntmps3
    go_wp2_with fail
    refine (awake_any _).mono ?_
    rintro e w2 ⟨rfl, hb2⟩
    go_wp2
    go_ret
    exact ⟨rfl, below_more HB0.out hb2 HB0.out.size⟩
  have HX0 : Hid (Msg (w.alloc (.cells #[.int .i64 k, .int .i64 t, .int .i64 g] 23)) w.heap.size k t g) := msg_new w k t g
  have HBt : Hid (Bts w a zs) := hB
  have HZ : Hid (AreBytes zs) := hz
  obtain ⟨pb, epb⟩ : ∃ pb, putB k t g = pb := ⟨_, rfl⟩
  have hput := fun X => put_any k t g X
  have hrput := fun X => rput_any k t g X
  have zP := putB_bd k t g
  rw [epb] at hput hrput zP
  have HZP : Hid (AreBytes pb) := zP
  clear hb0 hB hz epb zP
  generalize putE k t g = r at *
  go_enter Try.func3, Try.ntmps3
  go_upto_region 3 with fail
  generalize w.alloc (.cells #[.int .i64 k, .int .i64 t, .int .i64 g] 23) = W0 at *
  obtain ⟨x0, x1, x2⟩ := id HX0.out
  go_wp2_with fail
  refine (hput W0).mono ?_
  rintro e w1 ⟨ra, na, ca, rfl, hna, hca, hOA, hb1⟩
  clear x0 x1 x2 hput
  have HX1 : Hid (Msg w1 w.heap.size k t g) := HX0.out.below hb1 HX0.out.lt
  have HB1 : Hid (Below w.heap.size w w1) := below_more HB0.out hb1 HB0.out.size
  have HNA : Hid (na = pb.length) := hna
  have HOA : Hid (Bts w1 ra pb) := hOA
  clear hb1 hOA hna hca HX0 HB0
  obtain ⟨x0, x1, x2⟩ := id HX1.out
  go_wp2_with fail
  refine (hrput w1).mono ?_
  rintro e w2 ⟨rb, nb, cb, rfl, hnb, hcb, hOB, hb2⟩
  clear x0 x1 x2 hrput
  have HB2 : Hid (Below w.heap.size w w2) := below_more HB1.out hb2 HB1.out.size
  have HNB : Hid (nb = pb.length) := hnb
  have HOB : Hid (Bts w2 rb pb) := hOB
  have HOA2 : Hid (Bts w2 ra pb) := HOA.out.below hb2
  have hget := get_any a zs.length cap zs w2 rfl (HBt.out.below HB2.out) HZ.out hc
  have hrget := fun X (hX : Below w.heap.size w X) => rget_any a zs.length cap zs X rfl (HBt.out.below hX) HZ.out
  unfold GotEnd at hget hrget
  have HRG : Hid (∀ X, Below w.heap.size w X → Calls Try.prog 11 #[.slice a zs.length cap] X fun e w' => e = .returned (.tuple #[.agg #[.int .i64 (gotK zs), .int .i64 (gotT zs), .int .i64 (gotG zs)], .int .i64 (getE4 zs)]) ∧ Below X.heap.size X w') := hrget
  clear hb2 hOB hnb hcb HX1 HB1 HOA hrget
  generalize gotK zs = k2 at *
  generalize gotT zs = t2 at *
  generalize gotG zs = g2 at *
  generalize getE4 zs = r2 at *
  go_wp2_with fail
  refine hget.mono ?_
  rintro e w3 ⟨rfl, hb3⟩
  clear hget
  go_upto_region 6 with fail
  have hb3' := hb3.alloc hb3.size (.cells #[.int .i64 k2, .int .i64 t2, .int .i64 g2] 23)
  have HX3 : Hid (Msg (w3.alloc (.cells #[.int .i64 k2, .int .i64 t2, .int .i64 g2] 23)) w3.heap.size k2 t2 g2) := msg_new w3 k2 t2 g2
  have HB3 : Hid (Below w.heap.size w (w3.alloc (.cells #[.int .i64 k2, .int .i64 t2, .int .i64 g2] 23))) := below_more HB2.out hb3' HB2.out.size
  have HOA3 : Hid (Bts (w3.alloc (.cells #[.int .i64 k2, .int .i64 t2, .int .i64 g2] 23)) ra pb) := HOA2.out.below hb3'
  have HOB3 : Hid (Bts (w3.alloc (.cells #[.int .i64 k2, .int .i64 t2, .int .i64 g2] 23)) rb pb) := HOB.out.below hb3'
  clear hb3 hb3' HB2 HOA2 HOB
  generalize w3.alloc (.cells #[.int .i64 k2, .int .i64 t2, .int .i64 g2] 23) = V3 at *
  go_wp2_with fail
  refine (HRG.out V3 HB3.out).mono ?_
  rintro e w4 ⟨rfl, hb4⟩
  clear HRG
  go_upto_region 7 with fail
  have hb4' := hb4.alloc hb4.size (.cells #[.int .i64 k2, .int .i64 t2, .int .i64 g2] 23)
  have hX4 := msg_new w4 k2 t2 g2
  have hX3 := HX3.out.below hb4' HX3.out.lt
  have HB4 : Hid (Below w.heap.size w (w4.alloc (.cells #[.int .i64 k2, .int .i64 t2, .int .i64 g2] 23))) := below_more HB3.out hb4' HB3.out.size
  have c1 := conv_bts _ ra na ca pb HNA.out (HOA3.out.below hb4') HZP.out
  have c2 := conv_bts _ rb nb cb pb HNB.out (HOB3.out.below hb4') HZP.out
  clear hb4 hb4' HB3 HOA3 HOB3 HX3
  generalize w4.alloc (.cells #[.int .i64 k2, .int .i64 t2, .int .i64 g2] 23) = V4 at *
  generalize strOf pb = s1 at *
  obtain ⟨x0, x1, x2⟩ := hX3
  obtain ⟨y0, y1, y2⟩ := hX4
  go_wp2_with fail
  refine (num_any _ _).mono ?_
  rintro e w' ⟨rfl, rfl⟩
  go_wp2_with fail
  refine (num_any _ _).mono ?_
  rintro e w' ⟨rfl, rfl⟩
  go_wp2_with fail
  refine (awake_any _).mono ?_
  rintro e w6 ⟨rfl, hb6⟩
  have HB6 : Hid (Below w.heap.size w w6) := below_more HB4.out hb6 HB4.out.size
  clear hb6
  go_wp2
  go_ret
  exact ⟨rfl, HB6.out⟩
end Go.Proofs.Ytnnmaelnkoihjaa
