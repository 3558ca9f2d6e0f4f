/- The walk of IpAll. -/
import Derived.Test.YtknpgpmckabmbaaDoorS3L2
import Derived.Test.YtknpgpmckabmbaaDoorS3W12
namespace Go.Proofs.YtknpgpmckabmbaaDoor
open Go.RowKit

/-- The bytes that are told, of a wrong datagram none. -/
def putR (t p s d : Int) (xs : List Int) : List Int := if putE t p s d xs.length = 0 then putB t p s d xs else []
theorem putR_bd {t p s d : Int} {xs : List Int} (hx : AreBytes xs) : AreBytes (putR t p s d xs) := by
  unfold putR; split
  · exact putB_bd hx
  · intro z hz; cases hz
theorem putR_length {t p s d : Int} {xs : List Int} : (putR t p s d xs).length ≤ 140737488355328 := by
  unfold putR; split
  · next h => rw [putB_length]; have := (putE_zero h).2; omega
  · exact Nat.zero_le _
theorem put_all (t p s d : Int) (a : Option Addr) (cp : Nat) (xs : List Int) (w : World) (hB : Bts w a xs) (hnil : a = none → cp = 0) (hE : Env w) :
    Calls Tryd.prog 9 #[.agg #[.int .i64 t, .int .i64 p, .int .i64 s, .int .i64 d, .slice a xs.length cp]] w fun e w' =>
      ∃ (ra : Option Addr) (ca : Nat), e = .returned (.tuple #[.slice ra (putR t p s d xs).length ca, .int .i64 (putE t p s d xs.length)]) ∧ Bts w' ra (putR t p s d xs) ∧ Below w.heap.size w w' := by
  by_cases hk : putE t p s d xs.length = 0
  · refine (put_ok t p s d a cp xs w hB hnil hk).mono ?_
    rintro e w' ⟨g, cap, rfl, ho, hb⟩
    have e1 : putR t p s d xs = putB t p s d xs := by unfold putR; rw [if_pos hk]
    rw [e1, putB_length, hk]
    exact ⟨_, _, rfl, ho.bts, hb⟩
  · refine (put_bad t p s d a xs.length cp w hE _ rfl hk).mono ?_
    rintro e w' ⟨rfl, hb⟩
    have e1 : putR t p s d xs = [] := by unfold putR; rw [if_neg hk]
    rw [e1]
    exact ⟨_, _, rfl, .inl rfl, hb⟩
theorem rput_all (t p s d : Int) (a : Option Addr) (cp : Nat) (xs : List Int) (w : World) (hB : Bts w a xs) (hnil : a = none → cp = 0) :
    Calls Tryd.prog 10 #[.agg #[.int .i64 t, .int .i64 p, .int .i64 s, .int .i64 d, .slice a xs.length cp]] w fun e w' =>
      ∃ (ra : Option Addr) (ca : Nat), e = .returned (.tuple #[.slice ra (putR t p s d xs).length ca, .int .i64 (putE t p s d xs.length)]) ∧ Bts w' ra (putR t p s d xs) ∧ Below w.heap.size w w' := by
  by_cases hk : putE t p s d xs.length = 0
  · refine (rput_good t p s d a xs.length cp xs w rfl hB hnil hk (putE_zero hk).2).mono ?_
    rintro e w' ⟨g, cap, rfl, ho, hb⟩
    have e1 : putR t p s d xs = putB t p s d xs := by unfold putR; rw [if_pos hk]
    rw [e1, putB_length, hk]
    exact ⟨_, _, rfl, ho.bts, hb⟩
  · refine (rput_bad t p s d a xs.length cp w hk).mono ?_
    rintro e w' ⟨rfl, hb⟩
    have e1 : putR t p s d xs = [] := by unfold putR; rw [if_neg hk]
    rw [e1]
    exact ⟨_, _, rfl, .inl rfl, hb⟩
theorem rget_any (a : Option Addr) (n cap : Nat) (zs : List Int) (w : World) (hm : n = zs.length) (hB : Bts w a zs) (hz : AreBytes zs) (hc : n ≤ cap) (hn : n ≤ 3000) :
    Calls Tryd.prog 12 #[.slice a n cap] w fun e w' => GetEnd zs n e w' ∧ Below w.heap.size w w' := by
  by_cases h1 : n < 20
  · refine (rget_short a n cap w h1).mono ?_
    rintro e w' ⟨rfl, hb⟩
    have e2 := getE_short (zs := zs) (by omega)
    exact ⟨.inr ⟨by rw [e2]; decide, by rw [e2]⟩, hb⟩
  · obtain ⟨b, off, rfl, hcl⟩ := hB.resolve_left (by rintro rfl; simp at hm; omega)
    by_cases hf : formP zs
    · exact rget_main b off n cap zs w hm hB hz (by omega) hc hf
    · refine (rget_form b off n cap zs w hm hB hz (by omega) hn hf).mono ?_
      rintro e w' ⟨rfl, hb⟩
      have e3 : getE zs = 3 := by
        by_cases h2 : 1044 < zs.length
        · exact getE_long h2
        · refine getE_form (by omega) (by omega) fun h8 => hf ?_
          have := (form_iff zs (areD hz) (by omega) (by omega)).1 h8
          exact ⟨this.1, this.2.1, this.2.2.1, this.2.2.2, by omega⟩
      exact ⟨.inr ⟨by rw [e3]; decide, by rw [e3]⟩, hb⟩
def gotI (zs : List Int) (x : Int) : Int := if getE zs = 0 then x else 0
def gotD (zs : List Int) : List Int := if getE zs = 0 then zs.drop 20 else []
theorem get_form {zs : List Int} {n : Nat} {e : Ending} {w' : World} (hm : n = zs.length) (h : GetEnd zs n e w') :
    ∃ (a' : Option Addr) (c' : Nat), e = .returned (.tuple #[.agg #[.int .i64 (gotI zs (getT zs)), .int .i64 (gotI zs (getP zs)), .int .i64 (gotI zs (getS zs)), .int .i64 (gotI zs (getA zs)), .slice a' (gotD zs).length c'], .int .i64 (getE zs)]) ∧ Bts w' a' (gotD zs) := by
  rcases h with ⟨h0, a', c', rfl, hB, _⟩ | ⟨h0, rfl⟩
  · refine ⟨a', c', ?_, by unfold gotD; rw [if_pos h0]; exact hB⟩
    unfold gotI gotD
    rw [if_pos h0, if_pos h0, if_pos h0, if_pos h0, if_pos h0, List.length_drop, h0, hm]
  · refine ⟨none, 0, ?_, by unfold gotD; rw [if_neg h0]; exact .inl rfl⟩
    unfold gotI gotD
    rw [if_neg h0, if_neg h0, if_neg h0, if_neg h0, if_neg h0]
    rfl
theorem gotD_bd {zs : List Int} (h : AreBytes zs) : AreBytes (gotD zs) := by
  unfold gotD; split
  · exact fun z hz => h z (List.mem_of_mem_drop hz)
  · intro z hz; cases hz

set_option maxHeartbeats 1600000 in
theorem ipAll_walk (t p s d : Int) (a : Option Addr) (cp : Nat) (xs : List Int) (b : Option Addr) (cq : Nat) (ys : List Int) (w : World) (hB : Bts w a xs) (hz : AreBytes xs) (hnil : a = none → cp = 0)
    (hBy : Bts w b ys) (hzy : AreBytes ys) (hcy : ys.length ≤ cq) (hE : Env w) :
    Calls Tryd.prog 3 #[.agg #[.int .i64 t, .int .i64 p, .int .i64 s, .int .i64 d, .slice a xs.length cp], .slice b ys.length cq] w fun e w' => e = .returned (.bool true) ∧ Below w.heap.size w w' := by
  have hb0 := below_new' w (.cells #[.int .i64 t, .int .i64 p, .int .i64 s, .int .i64 d, .slice a xs.length cp] 24)
  have HB0 : Hid (Below w.heap.size w (w.alloc (.cells #[.int .i64 t, .int .i64 p, .int .i64 s, .int .i64 d, .slice a xs.length cp] 24))) := hb0
  by_cases h1 : 3000 < xs.length
  · clear hb0
    go_enter Tryd.func3, Tryd.ntmps3
    go_wp2_with fail
    refine (awake_any _).mono ?_
    rintro e w2 ⟨rfl, hb2⟩
    go_wp2
    go_ret
    exact ⟨rfl, below_more HB0.out hb2 HB0.out.size⟩
  by_cases h2 : 3000 < ys.length
  · clear hb0
    go_enter Tryd.func3, Tryd.ntmps3
    go_wp2_with fail
    refine (awake_any _).mono ?_
    rintro e w2 ⟨rfl, hb2⟩
    go_wp2
    go_ret
    exact ⟨rfl, below_more HB0.out hb2 HB0.out.size⟩
  have HX0 : Hid (Box (w.alloc (.cells #[.int .i64 t, .int .i64 p, .int .i64 s, .int .i64 d, .slice a xs.length cp] 24)) w.heap.size t p s d (.slice a xs.length cp)) := box_new w t p s d _
  have HBX : Hid (Bts w a xs) := hB
  have HZX : Hid (AreBytes xs) := hz
  have HNX : Hid (a = none → cp = 0) := hnil
  have HBY : Hid (Bts w b ys) := hBy
  have HZY : Hid (AreBytes ys) := hzy
  have HE : Hid (Env w) := hE
  clear hB hz hnil hBy hzy hE hb0
  go_enter Tryd.func3, Tryd.ntmps3
  go_upto_region 3 with fail
  generalize w.alloc (.cells #[.int .i64 t, .int .i64 p, .int .i64 s, .int .i64 d, .slice a xs.length cp] 24) = W0 at *
  have hput := put_all t p s d a cp xs W0 (HBX.out.below HB0.out) HNX.out (HE.out.below HB0.out (Nat.le_refl _))
  obtain ⟨x0, x1, x2, x3, x4⟩ := id HX0.out
  go_wp2_with fail
  refine hput.mono ?_
  rintro e w1 ⟨ra, ca, rfl, hbt1, hb1⟩
  clear hput x0 x1 x2 x3 x4
  have HX1 : Hid (Box w1 w.heap.size t p s d (.slice a xs.length cp)) := HX0.out.below hb1 HX0.out.lt
  have HB1 : Hid (Below w.heap.size w w1) := below_more HB0.out hb1 HB0.out.size
  have HT1 : Hid (Bts w1 ra (putR t p s d xs)) := hbt1
  clear hb1 hbt1 HX0 HB0
  have hput := rput_all t p s d a cp xs w1 (HBX.out.below HB1.out) HNX.out
  obtain ⟨x0, x1, x2, x3, x4⟩ := id HX1.out
  go_wp2_with fail
  refine hput.mono ?_
  rintro e w2 ⟨rb, cb, rfl, hbt2, hb2⟩
  clear hput x0 x1 x2 x3 x4
  have HB2 : Hid (Below w.heap.size w w2) := below_more HB1.out hb2 HB1.out.size
  have HT1' : Hid (Bts w2 ra (putR t p s d xs)) := HT1.out.below hb2
  have HT2 : Hid (Bts w2 rb (putR t p s d xs)) := hbt2
  clear hb2 hbt2 HX1 HB1 HT1
  have hget := get_any b ys.length cq ys w2 rfl (HBY.out.below HB2.out) HZY.out hcy (HE.out.below HB2.out (Nat.le_refl _))
  go_wp2_with fail
  refine hget.mono ?_
  rintro e w3 ⟨hG, hb3⟩
  obtain ⟨a3, c3, rfl, hbt3⟩ := get_form rfl hG
  clear hget hG
  have HGD : Hid (AreBytes (gotD ys)) := gotD_bd HZY.out
  go_upto_region 6 with fail
  have hbU := hb3.alloc hb3.size (.cells #[.int .i64 (gotI ys (getT ys)), .int .i64 (gotI ys (getP ys)), .int .i64 (gotI ys (getS ys)), .int .i64 (gotI ys (getA ys)), .slice a3 (gotD ys).length c3] 24)
  have HXU : Hid (Box (w3.alloc (.cells #[.int .i64 (gotI ys (getT ys)), .int .i64 (gotI ys (getP ys)), .int .i64 (gotI ys (getS ys)), .int .i64 (gotI ys (getA ys)), .slice a3 (gotD ys).length c3] 24)) w3.heap.size (gotI ys (getT ys)) (gotI ys (getP ys)) (gotI ys (getS ys)) (gotI ys (getA ys)) (.slice a3 (gotD ys).length c3)) := box_new _ _ _ _ _ _
  have HB3 : Hid (Below w.heap.size w (w3.alloc (.cells #[.int .i64 (gotI ys (getT ys)), .int .i64 (gotI ys (getP ys)), .int .i64 (gotI ys (getS ys)), .int .i64 (gotI ys (getA ys)), .slice a3 (gotD ys).length c3] 24))) := below_more HB2.out hbU HB2.out.size
  have HT1'' : Hid (Bts (w3.alloc (.cells #[.int .i64 (gotI ys (getT ys)), .int .i64 (gotI ys (getP ys)), .int .i64 (gotI ys (getS ys)), .int .i64 (gotI ys (getA ys)), .slice a3 (gotD ys).length c3] 24)) ra (putR t p s d xs)) := HT1'.out.below hbU
  have HT2' : Hid (Bts (w3.alloc (.cells #[.int .i64 (gotI ys (getT ys)), .int .i64 (gotI ys (getP ys)), .int .i64 (gotI ys (getS ys)), .int .i64 (gotI ys (getA ys)), .slice a3 (gotD ys).length c3] 24)) rb (putR t p s d xs)) := HT2.out.below hbU
  have HT3 : Hid (Bts (w3.alloc (.cells #[.int .i64 (gotI ys (getT ys)), .int .i64 (gotI ys (getP ys)), .int .i64 (gotI ys (getS ys)), .int .i64 (gotI ys (getA ys)), .slice a3 (gotD ys).length c3] 24)) a3 (gotD ys)) := hbt3.below (below_new' _ _)
  clear hbU hb3 hbt3 HB2 HT1' HT2
  generalize w3.alloc (.cells #[.int .i64 (gotI ys (getT ys)), .int .i64 (gotI ys (getP ys)), .int .i64 (gotI ys (getS ys)), .int .i64 (gotI ys (getA ys)), .slice a3 (gotD ys).length c3] 24) = V at *
  have hget := rget_any b ys.length cq ys V rfl (HBY.out.below HB3.out) HZY.out hcy (by omega)
  go_wp2_with fail
  refine hget.mono ?_
  rintro e w4 ⟨hG, hb4⟩
  obtain ⟨a4, c4, rfl, hbt4⟩ := get_form rfl hG
  clear hget hG
  go_upto_region 7 with fail
  have hbV := hb4.alloc hb4.size (.cells #[.int .i64 (gotI ys (getT ys)), .int .i64 (gotI ys (getP ys)), .int .i64 (gotI ys (getS ys)), .int .i64 (gotI ys (getA ys)), .slice a4 (gotD ys).length c4] 24)
  have XV : Box (w4.alloc (.cells #[.int .i64 (gotI ys (getT ys)), .int .i64 (gotI ys (getP ys)), .int .i64 (gotI ys (getS ys)), .int .i64 (gotI ys (getA ys)), .slice a4 (gotD ys).length c4] 24)) w4.heap.size (gotI ys (getT ys)) (gotI ys (getP ys)) (gotI ys (getS ys)) (gotI ys (getA ys)) (.slice a4 (gotD ys).length c4) := box_new _ _ _ _ _ _
  have XU : Box (w4.alloc (.cells #[.int .i64 (gotI ys (getT ys)), .int .i64 (gotI ys (getP ys)), .int .i64 (gotI ys (getS ys)), .int .i64 (gotI ys (getA ys)), .slice a4 (gotD ys).length c4] 24)) w3.heap.size (gotI ys (getT ys)) (gotI ys (getP ys)) (gotI ys (getS ys)) (gotI ys (getA ys)) (.slice a3 (gotD ys).length c3) := HXU.out.below hbV HXU.out.lt
  have HB4 : Hid (Below w.heap.size w (w4.alloc (.cells #[.int .i64 (gotI ys (getT ys)), .int .i64 (gotI ys (getP ys)), .int .i64 (gotI ys (getS ys)), .int .i64 (gotI ys (getA ys)), .slice a4 (gotD ys).length c4] 24))) := below_more HB3.out hbV HB3.out.size
  have b1 : Bts (w4.alloc (.cells #[.int .i64 (gotI ys (getT ys)), .int .i64 (gotI ys (getP ys)), .int .i64 (gotI ys (getS ys)), .int .i64 (gotI ys (getA ys)), .slice a4 (gotD ys).length c4] 24)) ra (putR t p s d xs) := HT1''.out.below hbV
  have b2 : Bts (w4.alloc (.cells #[.int .i64 (gotI ys (getT ys)), .int .i64 (gotI ys (getP ys)), .int .i64 (gotI ys (getS ys)), .int .i64 (gotI ys (getA ys)), .slice a4 (gotD ys).length c4] 24)) rb (putR t p s d xs) := HT2'.out.below hbV
  have b3 : Bts (w4.alloc (.cells #[.int .i64 (gotI ys (getT ys)), .int .i64 (gotI ys (getP ys)), .int .i64 (gotI ys (getS ys)), .int .i64 (gotI ys (getA ys)), .slice a4 (gotD ys).length c4] 24)) a3 (gotD ys) := HT3.out.below hbV
  have b4 : Bts (w4.alloc (.cells #[.int .i64 (gotI ys (getT ys)), .int .i64 (gotI ys (getP ys)), .int .i64 (gotI ys (getS ys)), .int .i64 (gotI ys (getA ys)), .slice a4 (gotD ys).length c4] 24)) a4 (gotD ys) := hbt4.below (below_new' _ _)
  clear hbV hb4 hbt4 HB3 HT1'' HT2' HT3 HXU
  generalize w4.alloc (.cells #[.int .i64 (gotI ys (getT ys)), .int .i64 (gotI ys (getP ys)), .int .i64 (gotI ys (getS ys)), .int .i64 (gotI ys (getA ys)), .slice a4 (gotD ys).length c4] 24) = X at *
  have c1 := conv_bts X ra _ ca _ rfl b1 (putR_bd HZX.out)
  have c2 := conv_bts X rb _ cb _ rfl b2 (putR_bd HZX.out)
  have hsame := same_any (gotI ys (getT ys)) (gotI ys (getP ys)) (gotI ys (getS ys)) (gotI ys (getA ys)) (gotI ys (getT ys)) (gotI ys (getP ys)) (gotI ys (getS ys)) (gotI ys (getA ys)) a3 a4 _ _ c3 c4 (gotD ys) (gotD ys) X rfl rfl b3 b4 HGD.out HGD.out
  have hsb : sameB (gotI ys (getT ys)) (gotI ys (getP ys)) (gotI ys (getS ys)) (gotI ys (getA ys)) (gotD ys) (gotI ys (getT ys)) (gotI ys (getP ys)) (gotI ys (getS ys)) (gotI ys (getA ys)) (gotD ys) = true := by simp [sameB]
  rw [hsb] at hsame
  obtain ⟨u0, u1, u2, u3, u4⟩ := XU
  obtain ⟨v0, v1, v2, v3, v4⟩ := XV
  clear b1 b2 b3 b4 hsb
  generalize strOf (putR t p s d xs) = s1 at *
  go_wp2_with fail
  refine (num_any _ _).mono ?_
  rintro e w' ⟨rfl, rfl⟩
  go_wp2_with fail
  refine hsame.mono ?_
  rintro e w5 ⟨rfl, hb5⟩
  have HB5 : Hid (Below w.heap.size w w5) := below_more HB4.out hb5 HB4.out.size
  clear hsame hb5 c1 c2 u0 u1 u2 u3 u4 v0 v1 v2 v3 v4
  go_wp2_with fail
  refine (num_any _ _).mono ?_
  rintro e w' ⟨rfl, rfl⟩
  go_wp2_with fail
  refine (awake_any _).mono ?_
  rintro e w6 ⟨rfl, hb6⟩
  have HB6 : Hid (Below w.heap.size w w6) := below_more HB5.out hb6 HB5.out.size
  clear hb6
  go_wp2
  go_ret
  exact ⟨rfl, HB6.out⟩
end Go.Proofs.YtknpgpmckabmbaaDoor
