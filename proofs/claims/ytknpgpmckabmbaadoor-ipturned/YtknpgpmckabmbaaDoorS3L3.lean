/- The walk of IpJust. -/
import Derived.Test.YtknpgpmckabmbaaDoorS3L0
namespace Go.Proofs.YtknpgpmckabmbaaDoor
open Go.RowKit

theorem areD {zs : List Int} (h : AreBytes zs) : ∀ k, 0 ≤ zs.getD k 0 ∧ zs.getD k 0 ≤ 255 := areBytes_getD h
set_option maxHeartbeats 1600000 in
theorem ipJust_walk (a : Option Addr) (cap : Nat) (zs : List Int) (w : World) (hB : Bts w a zs) (hz : AreBytes zs) (hc : zs.length ≤ cap) (hE : Env w) :
    Calls Tryd.prog 5 #[.slice a zs.length cap] w fun e w' => e = .returned (.bool true) ∧ Below w.heap.size w w' := by
  by_cases h3 : 3000 < zs.length
  · go_enter Tryd.func5, Tryd.ntmps5
    go_wp2_with fail
    refine (awake_any _).mono ?_
    rintro e w2 ⟨rfl, hb2⟩
    go_wp2
    go_ret
    exact ⟨rfl, hb2⟩
  have hget := get_any a zs.length cap zs w rfl hB hz hc hE
  have HBt : Hid (Bts w a zs) := hB
  have HZ : Hid (AreBytes zs) := hz
  clear hB hz
  go_enter Tryd.func5, Tryd.ntmps5
  go_wp2_with fail
  refine hget.mono ?_
  rintro e w1 ⟨hG, hb1⟩
  clear hget
  rcases hG with ⟨h0, a', cp', rfl, hA, hnil, hcp⟩ | ⟨h0, rfl⟩
  · have HB1 : Hid (Below w.heap.size w w1) := hb1
    have hw20 := getE_take zs h0
    have hput := put_ok (getT zs) (getP zs) (getS zs) (getA zs) a' cp' (zs.drop 20) (w1.alloc (.cells #[.int .i64 (getT zs), .int .i64 (getP zs), .int .i64 (getS zs), .int .i64 (getA zs), .slice a' (zs.length - 20) cp'] 24)) (hA.below (below_new' _ _)) hnil (put_of_got zs (areD HZ.out) _ (by rw [List.length_drop]; omega))
    have hpb : putB (getT zs) (getP zs) (getS zs) (getA zs) (zs.drop 20) = zs := by
      have := getE_whole zs h0
      unfold putB
      rw [List.length_drop, wantZ_of rfl (by omega)]
      exact this
    rw [hpb, List.length_drop] at hput
    have HB2 : Hid (Below w.heap.size w (w1.alloc (.cells #[.int .i64 (getT zs), .int .i64 (getP zs), .int .i64 (getS zs), .int .i64 (getA zs), .slice a' (zs.length - 20) cp'] 24))) := hb1.alloc hb1.size _
    have h20 : 20 ≤ zs.length := hw20.2.1
    clear hA hnil hcp hpb hw20 hb1
    go_wp2_with fail
    refine (num_any _ _).mono ?_
    rintro e w' ⟨rfl, rfl⟩
    go_wp2_with fail
    refine hput.mono ?_
    rintro e w2 ⟨g, gc, rfl, ho, hb2⟩
    clear hput
    have hB2 : Below w.heap.size w w2 := below_more HB2.out hb2 HB2.out.size
    have c1 := conv_bts w2 (some ⟨g, 0, none⟩) zs.length gc zs rfl ho.bts HZ.out
    have c2 := conv_bts w2 a zs.length cap zs rfl (HBt.out.below hB2) HZ.out
    have HB3 : Hid (Below w.heap.size w w2) := hB2
    clear ho hb2 hB2 HB2 HB1
    generalize strOf zs = s1 at *
    go_wp2_with fail
    refine (num_any _ _).mono ?_
    rintro e w' ⟨rfl, rfl⟩
    go_wp2_with fail
    refine (awake_any _).mono ?_
    rintro e w3 ⟨rfl, hb3⟩
    have HB4 : Hid (Below w.heap.size w w3) := below_more HB3.out hb3 HB3.out.size
    clear hb3 c1 c2
    go_wp2
    go_ret
    exact ⟨rfl, HB4.out⟩
  · have HB1 : Hid (Below w.heap.size w (w1.alloc (.cells #[.int .i64 0, .int .i64 0, .int .i64 0, .int .i64 0, .slice none 0 0] 24))) := hb1.alloc hb1.size _
    clear hb1
    have h1 : (getE zs != 0) = true := by simp [h0]
    generalize getE zs = k at *
    go_wp2_with fail
    refine (num_any _ _).mono ?_
    rintro e w' ⟨rfl, rfl⟩
    go_wp2_with fail
    refine (awake_any _).mono ?_
    rintro e w3 ⟨rfl, hb3⟩
    have HB4 : Hid (Below w.heap.size w w3) := below_more HB1.out hb3 HB1.out.size
    clear hb3
    go_wp2
    go_ret
    exact ⟨rfl, HB4.out⟩
end Go.Proofs.YtknpgpmckabmbaaDoor
