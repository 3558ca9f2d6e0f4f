/- The walk of IgmpJust. -/
import Derived.Test.YtnnmaelnkoihjaaS4L0
namespace Go.Proofs.Ytnnmaelnkoihjaa
open Go.RowKit

theorem xor_byte (z y : Int) (hz : 0 ≤ z ∧ z ≤ 255) (hy : 0 ≤ y ∧ y ≤ 255) (h : y ≠ 0) : (0 ≤ bits .xor .u8 z y ∧ bits .xor .u8 z y ≤ 255) ∧ bits .xor .u8 z y ≠ z := by
  have e : bits .xor .u8 z y = ((BitVec.ofInt 8 z ^^^ BitVec.ofInt 8 y).toNat : Int) := by
    show IntKind.u8.wrap _ = _
    rw [IntKind.wrap_u8]
    have := (BitVec.ofInt 8 z ^^^ BitVec.ofInt 8 y).isLt
    have e2 : ((BitVec.ofInt IntKind.u8.bits z ^^^ BitVec.ofInt IntKind.u8.bits y).toNat : Int) = ((BitVec.ofInt 8 z ^^^ BitVec.ofInt 8 y).toNat : Int) := rfl
    rw [e2]
    omega
  have hlt := (BitVec.ofInt 8 z ^^^ BitVec.ofInt 8 y).isLt
  refine ⟨by rw [e]; omega, fun hE => h ?_⟩
  rw [e] at hE
  have hzn : (BitVec.ofInt 8 z).toNat = z.toNat := by simp [BitVec.toNat_ofInt]; omega
  have hyn : (BitVec.ofInt 8 y).toNat = y.toNat := by simp [BitVec.toNat_ofInt]; omega
  have hx : BitVec.ofInt 8 z ^^^ BitVec.ofInt 8 y = BitVec.ofInt 8 z := by
    apply BitVec.eq_of_toNat_eq
    rw [hzn]; omega
  have h0 : BitVec.ofInt 8 y = 0#8 := by
    have := congrArg (fun b => BitVec.ofInt 8 z ^^^ b) hx
    simp only [← BitVec.xor_assoc, BitVec.xor_self, BitVec.zero_xor] at this
    exact this
  rw [h0] at hyn
  simp at hyn
  omega
theorem areBytes_set {zs : List Int} (h : AreBytes zs) (k : Nat) (x : Int) (hx : 0 ≤ x ∧ x ≤ 255) : AreBytes (zs.set k x) := fun z hz => by
  rcases List.mem_or_eq_of_mem_set hz with h' | rfl
  · exact h z h'
  · exact hx
theorem mod8 (x : Int) : ∃ i : Nat, x % 8 = i ∧ i < 8 := ⟨(x % 8).toNat, by omega, by omega⟩
theorem getE4_want {zs : List Int} (h : getE4 zs = 0) : zs = wantZ4 zs := by
  have := (got_put h).1
  rcases Classical.em (zs = wantZ4 zs) with h1 | h1
  · exact h1
  · rw [getE4_sum this h1] at h; cases h
/-- One byte turned: none. -/
theorem turned_none (zs : List Int) (hz : AreBytes zs) (h : getE4 zs = 0) (i : Nat) (v : Int) (hi : i < 8) (hv : 0 ≤ v ∧ v ≤ 255) (hne : v ≠ zs.getD i 0) : getE4 (zs.set i v) ≠ 0 := by
  intro h'
  have hz' := areBytes_set hz i v hv
  have w1 := getE4_want h
  have w2 := getE4_want h'
  obtain ⟨a, b, c, d, e, f, g, j, rfl⟩ := list8 (got_put h).1
  rw [want_iff _ _ _ _ _ _ _ _ hz] at w1
  simp only [AreBytes, List.mem_cons, List.not_mem_nil, or_false, forall_eq_or_imp, forall_eq] at hz
  obtain ⟨ha, hb, hc, hd, he, hf, hg, hj⟩ := hz
  have hc8 : i = 0 ∨ i = 1 ∨ i = 2 ∨ i = 3 ∨ i = 4 ∨ i = 5 ∨ i = 6 ∨ i = 7 := by omega
  rcases hc8 with rfl | rfl | rfl | rfl | rfl | rfl | rfl | rfl
  all_goals
    simp only [List.set_cons_zero, List.set_cons_succ] at w2 hz'
    simp only [List.getD_cons_zero, List.getD_cons_succ] at hne
    rw [want_iff _ _ _ _ _ _ _ _ hz'] at w2
    simp only [inetZ, wordsZ] at w1 w2
    clear h h' hz'
    unfold foldZ at w1 w2
    split at w1 <;> split at w2 <;> omega

set_option maxHeartbeats 1600000 in
theorem igmpJust_walk (a : Option Addr) (cap : Nat) (zs : List Int) (x y : Int) (w : World) (hB : Bts w a zs) (hz : AreBytes zs) (hc : zs.length ≤ cap) (hx : 0 ≤ x ∧ x ≤ 255) (hy : 0 ≤ y ∧ y ≤ 255) :
    Calls Try.prog 5 #[.slice a zs.length cap, .int .u8 x, .int .u8 y] w fun e w' => e = .returned (.bool true) ∧ Below w.heap.size w w' := by
  by_cases h1 : 100 < zs.length
  · go_enter Try.func5, Try.ntmps5
    go_wp2_with fail
    refine (awake_any _).mono ?_
    rintro e w2 ⟨rfl, hb2⟩
    go_wp2
    go_ret
    exact ⟨rfl, hb2⟩
  by_cases h2 : y = 0
  · have t0 : (y == 0) = true := by simp [h2]
    clear h2
    go_enter Try.func5, Try.ntmps5
    go_wp2_with fail
    refine (awake_any _).mono ?_
    rintro e w2 ⟨rfl, hb2⟩
    go_wp2
    go_ret
    exact ⟨rfl, hb2⟩
  have t0 : (y == 0) = false := by simp [h2]
  have H2 : Hid (y ≠ 0) := h2
  clear h2
  have hget := get_any a zs.length cap zs w rfl hB hz hc
  unfold GotEnd at hget
  have HBt : Hid (Bts w a zs) := hB
  have HZ : Hid (AreBytes zs) := hz
  clear hB hz
  by_cases h0 : getE4 zs = 0
  rotate_left
  · have k0 : (getE4 zs != 0) = true := by simp [h0]
    clear h0
    generalize getE4 zs = r at *
    generalize gotK zs = k at *
    generalize gotT zs = t at *
    generalize gotG zs = g at *
    go_enter Try.func5, Try.ntmps5
    go_wp2_with fail
    refine hget.mono ?_
    rintro e w1 ⟨rfl, hb1⟩
    clear hget
    have HB1 : Hid (Below w.heap.size w (w1.alloc (.cells #[.int .i64 k, .int .i64 t, .int .i64 g] 23))) := hb1.alloc hb1.size _
    clear hb1
    go_wp2_with fail
    refine (num_any _ _).mono ?_
    rintro e w' ⟨rfl, rfl⟩
    go_wp2_with fail
    refine (awake_any _).mono ?_
    rintro e w3 ⟨rfl, hb3⟩
    have HB4 : Hid (Below w.heap.size w w3) := below_more HB1.out hb3 HB1.out.size
    clear hb3
    go_wp2
    go_ret
    exact ⟨rfl, HB4.out⟩
  obtain ⟨hl, hp0, hlay⟩ := got_put h0
  rw [h0] at hget
  have HGE : Hid (getE4 zs = 0) := h0
  have hput := fun X => put_good (gotK zs) (gotT zs) (gotG zs) X hp0
  rw [hlay] at hput
  have HL : Hid (zs.length = 8) := hl
  clear h0 hp0 hlay hl
  generalize gotK zs = k at *
  generalize gotT zs = t at *
  generalize gotG zs = g at *
  go_enter Try.func5, Try.ntmps5
  go_wp2_with fail
  refine hget.mono ?_
  rintro e w1 ⟨rfl, hb1⟩
  clear hget
  have hB2 : Below w.heap.size w (w1.alloc (.cells #[.int .i64 k, .int .i64 t, .int .i64 g] 23)) := hb1.alloc hb1.size _
  have HB2 : Hid (Below w.heap.size w (w1.alloc (.cells #[.int .i64 k, .int .i64 t, .int .i64 g] 23))) := hB2
  have hput' := hput (w1.alloc (.cells #[.int .i64 k, .int .i64 t, .int .i64 g] 23))
  clear hb1 hB2 hput
  go_wp2_with fail
  refine (num_any _ _).mono ?_
  rintro e w' ⟨rfl, rfl⟩
  go_wp2_with fail
  refine hput'.mono ?_
  rintro e w2 ⟨gb, gc, rfl, ho, hb2⟩
  clear hput'
  have hB2 : Below w.heap.size w w2 := below_more HB2.out hb2 HB2.out.size
  have c1 := conv_bts w2 (some ⟨gb, 0, none⟩) 8 gc zs HL.out.symm ho.bts HZ.out
  have c2 := conv_bts w2 a zs.length cap zs rfl (HBt.out.below hB2) HZ.out
  obtain ⟨i, hi, hi8⟩ := mod8 x
  have hil : i < zs.length := by have := HL.out; omega
  have ci := ho.cell i hil
  have fi := ho.frozen i
  have hzi := areBytes_getD HZ.out i
  have hxor := xor_byte (zs.getD i 0) y hzi hy H2.out
  have HXOR : Hid ((0 ≤ bits .xor .u8 (zs.getD i 0) y ∧ bits .xor .u8 (zs.getD i 0) y ≤ 255) ∧ bits .xor .u8 (zs.getD i 0) y ≠ zs.getD i 0) := hxor
  have HO : Hid (Owns w2 _ gb gc zs) := ho
  have HB3 : Hid (Below w.heap.size w w2) := hB2
  have HG : Hid (w.heap.size ≤ gb) := by have h1 := ho.lt.1; have h2 := HB2.out.size; show _ ≤ _; omega
  clear hxor ho hb2 hB2 hzi HB2
  generalize strOf zs = s1 at *
  generalize hZI : zs.getD i 0 = zi at *
  have hii : (i : Int) < 8 := by omega
  go_wp2_with fail
  refine (num_any _ _).mono ?_
  rintro e w' ⟨rfl, rfl⟩
  go_upto_region 10 with fail
  generalize bits .xor .u8 zi y = v at *
  have hO' := HO.out.stored i v
  have hbW : Below w.heap.size w (w'.setCell ⟨gb, i, none⟩ (.int .u8 v)) := HB3.out.setCell (p := ⟨gb, i, none⟩) HG.out _
  have hZ' : AreBytes (zs.set i v) := areBytes_set HZ.out i v HXOR.out.1
  have hne := turned_none zs HZ.out HGE.out i v hi8 HXOR.out.1 (by rw [hZI]; exact HXOR.out.2)
  have hget := get_any (some ⟨gb, 0, none⟩) 8 gc (zs.set i v) (w'.setCell ⟨gb, i, none⟩ (.int .u8 v)) (by rw [List.length_set, HL.out]) hO'.bts hZ' (by have := hO'.cap; rw [List.length_set, HL.out] at this; exact this)
  unfold GotEnd at hget
  have HBW : Hid (Below w.heap.size w (w'.setCell ⟨gb, i, none⟩ (.int .u8 v))) := hbW
  have k0 : (getE4 (zs.set i v) != 0) = true := by simp [hne]
  clear hO' hbW hZ' hne ci fi HO c1 c2
  generalize w'.setCell ⟨gb, i, none⟩ (.int .u8 v) = W at *
  generalize getE4 (zs.set i v) = r at *
  generalize gotK (zs.set i v) = k2 at *
  generalize gotT (zs.set i v) = t2 at *
  generalize gotG (zs.set i v) = g2 at *
  go_wp2_with fail
  refine hget.mono ?_
  rintro e w3 ⟨rfl, hb3⟩
  clear hget
  have HB4 : Hid (Below w.heap.size w (w3.alloc (.cells #[.int .i64 k2, .int .i64 t2, .int .i64 g2] 23))) := by
    have hb := below_more HBW.out hb3 HBW.out.size
    exact hb.alloc hb.size _
  clear hb3
  go_wp2_with fail
  refine (num_any _ _).mono ?_
  rintro e w' ⟨rfl, rfl⟩
  go_wp2_with fail
  refine (awake_any _).mono ?_
  rintro e w4 ⟨rfl, hb4⟩
  have HB5 : Hid (Below w.heap.size w w4) := below_more HB4.out hb4 HB4.out.size
  clear hb4
  go_wp2
  go_ret
  exact ⟨rfl, HB5.out⟩
end Go.Proofs.Ytnnmaelnkoihjaa
