/- The walk of IpTurned. -/
import Derived.Test.YtknpgpmckabmbaaDoorS3L3
namespace Go.Proofs.YtknpgpmckabmbaaDoor
open Go.RowKit

theorem xor_byte (z y : Int) (hz : 0 ≤ z ∧ z ≤ 255) (hy : 0 ≤ y ∧ y ≤ 255) (h : y ≠ 0) : (0 ≤ bits .xor .u8 z y ∧ bits .xor .u8 z y ≤ 255) ∧ bits .xor .u8 z y ≠ z := by
  have e : bits .xor .u8 z y = ((BitVec.ofInt 8 z ^^^ BitVec.ofInt 8 y).toNat : Int) := by
    show IntKind.u8.wrap _ = _
    rw [IntKind.wrap_u8]
    have := (BitVec.ofInt 8 z ^^^ BitVec.ofInt 8 y).isLt
    have e2 : ((BitVec.ofInt IntKind.u8.bits z ^^^ BitVec.ofInt IntKind.u8.bits y).toNat : Int) = ((BitVec.ofInt 8 z ^^^ BitVec.ofInt 8 y).toNat : Int) := rfl
    rw [e2]
    omega
  have hlt := (BitVec.ofInt 8 z ^^^ BitVec.ofInt 8 y).isLt
  refine ⟨by rw [e]; omega, fun hE => h ?_⟩
  rw [e] at hE
  have hzn : (BitVec.ofInt 8 z).toNat = z.toNat := by simp [BitVec.toNat_ofInt]; omega
  have hyn : (BitVec.ofInt 8 y).toNat = y.toNat := by simp [BitVec.toNat_ofInt]; omega
  have hx : BitVec.ofInt 8 z ^^^ BitVec.ofInt 8 y = BitVec.ofInt 8 z := by
    apply BitVec.eq_of_toNat_eq
    rw [hzn]; omega
  have h0 : BitVec.ofInt 8 y = 0#8 := by
    have := congrArg (fun b => BitVec.ofInt 8 z ^^^ b) hx
    simp only [← BitVec.xor_assoc, BitVec.xor_self, BitVec.zero_xor] at this
    exact this
  rw [h0] at hyn
  simp at hyn
  omega
theorem areBytes_set {zs : List Int} (h : AreBytes zs) (k : Nat) (x : Int) (hx : 0 ≤ x ∧ x ≤ 255) : AreBytes (zs.set k x) := fun z hz => by
  rcases List.mem_or_eq_of_mem_set hz with h' | rfl
  · exact h z h'
  · exact hx
theorem mod20 (x : Int) : ∃ i : Nat, x % 20 = i ∧ i < 20 := ⟨(x % 20).toNat, by omega, by omega⟩

set_option maxHeartbeats 1600000 in
theorem ipTurned_walk (t p s d : Int) (a : Option Addr) (cp : Nat) (xs : List Int) (x y : Int) (w : World) (hB : Bts w a xs) (hz : AreBytes xs) (hnil : a = none → cp = 0) (hx : 0 ≤ x ∧ x ≤ 255) (hy : 0 ≤ y ∧ y ≤ 255) (hE : Env w) :
    Calls Tryd.prog 6 #[.agg #[.int .i64 t, .int .i64 p, .int .i64 s, .int .i64 d, .slice a xs.length cp], .int .u8 x, .int .u8 y] w fun e w' => e = .returned (.bool true) ∧ Below w.heap.size w w' := by
  have hb0 := below_new' w (.cells #[.int .i64 t, .int .i64 p, .int .i64 s, .int .i64 d, .slice a xs.length cp] 24)
  have HB0 : Hid (Below w.heap.size w (w.alloc (.cells #[.int .i64 t, .int .i64 p, .int .i64 s, .int .i64 d, .slice a xs.length cp] 24))) := hb0
  by_cases h1 : 1024 < xs.length
  · clear hb0
    go_enter Tryd.func6, Tryd.ntmps6
    go_wp2_with fail
    refine (awake_any _).mono ?_
    rintro e w2 ⟨rfl, hb2⟩
    go_wp2
    go_ret
    exact ⟨rfl, below_more HB0.out hb2 HB0.out.size⟩
  by_cases h2 : y = 0
  · have t0 : (y == 0) = true := by simp [h2]
    clear hb0 h2
    go_enter Tryd.func6, Tryd.ntmps6
    go_wp2_with fail
    refine (awake_any _).mono ?_
    rintro e w2 ⟨rfl, hb2⟩
    go_wp2
    go_ret
    exact ⟨rfl, below_more HB0.out hb2 HB0.out.size⟩
  have t0 : (y == 0) = false := by simp [h2]
  have H2 : Hid (y ≠ 0) := h2
  clear h2
  have HE : Hid (Env w) := hE
  have HE0 : Hid (Env (w.alloc (.cells #[.int .i64 t, .int .i64 p, .int .i64 s, .int .i64 d, .slice a xs.length cp] 24))) := hE.below hb0 (Nat.le_refl _)
  by_cases hk : putE t p s d xs.length = 0
  · have hput := put_ok t p s d a cp xs (w.alloc (.cells #[.int .i64 t, .int .i64 p, .int .i64 s, .int .i64 d, .slice a xs.length cp] 24)) (hB.below hb0) hnil hk
    have hok := (putE_zero hk).1
    have hge := putB_ok (xs := xs) hok (by omega)
    have hpb : AreBytes (putB t p s d xs) := putB_bd hz
    have hlen : (putB t p s d xs).length = 20 + xs.length := putB_length
    have HGE : Hid (getE (putB t p s d xs) = 0) := hge
    have HPB : Hid (AreBytes (putB t p s d xs)) := hpb
    have HLEN : Hid ((putB t p s d xs).length = 20 + xs.length) := hlen
    clear hge hpb hlen hok hk hb0 hB hz hnil hE
    generalize putB t p s d xs = zs at *
    go_enter Tryd.func6, Tryd.ntmps6
    go_wp2_with fail
    refine hput.mono ?_
    rintro e w1 ⟨g, gc, rfl, ho, hb1⟩
    clear hput
    obtain ⟨i, hi, hi20⟩ := mod20 x
    have hil : i < zs.length := by have := HLEN.out; omega
    have ci := ho.cell i hil
    have fi := ho.frozen i
    have hzi := areBytes_getD HPB.out i
    have hxor := xor_byte (zs.getD i 0) y hzi hy H2.out
    have HXOR : Hid ((0 ≤ bits .xor .u8 (zs.getD i 0) y ∧ bits .xor .u8 (zs.getD i 0) y ≤ 255) ∧ bits .xor .u8 (zs.getD i 0) y ≠ zs.getD i 0) := hxor
    have HO : Hid (Owns w1 _ g gc zs) := ho
    have HB1 : Hid (Below w.heap.size w w1) := below_more HB0.out hb1 (by simp)
    have HG : Hid (w.heap.size ≤ g) := by have := ho.lt.1; simp at this; show _ ≤ _; omega
    clear hxor ho hb1 hzi
    generalize hZI : zs.getD i 0 = zi at *
    have hii : (i : Int) < 20 + (xs.length : Int) := by omega
    go_wp2_with fail
    refine (num_any _ _).mono ?_
    rintro e w' ⟨rfl, rfl⟩
    go_upto_region 7 with fail
    generalize bits .xor .u8 zi y = v at *
    have hO' := HO.out.stored i v
    have hlt := HO.out.lt
    have hbW : Below w.heap.size w (w'.setCell ⟨g, i, none⟩ (.int .u8 v)) := HB1.out.setCell (p := ⟨g, i, none⟩) HG.out _
    have hEW : Env (w'.setCell ⟨g, i, none⟩ (.int .u8 v)) := HE.out.below hbW (Nat.le_refl _)
    have hZ' : AreBytes (zs.set i v) := areBytes_set HPB.out i v HXOR.out.1
    have hne := turned_none zs (areD HPB.out) HGE.out i v hi20 HXOR.out.1 (by rw [hZI]; exact HXOR.out.2) (areD hZ')
    have hget := get_any (some ⟨g, 0, none⟩) (20 + xs.length) gc (zs.set i v) (w'.setCell ⟨g, i, none⟩ (.int .u8 v)) (by rw [List.length_set, HLEN.out]) hO'.bts hZ' (by have := hO'.cap; rw [List.length_set, HLEN.out] at this; exact this) hEW
    have HBW : Hid (Below w.heap.size w (w'.setCell ⟨g, i, none⟩ (.int .u8 v))) := hbW
    have HNE : Hid (getE (zs.set i v) ≠ 0) := hne
    clear hO' hlt hbW hEW hZ' hne ci fi HO
    generalize w'.setCell ⟨g, i, none⟩ (.int .u8 v) = W at *
    go_wp2_with fail
    refine hget.mono ?_
    rintro e w3 ⟨hG, hb3⟩
    clear hget
    rcases hG with ⟨h0, _⟩ | ⟨h0, rfl⟩
    · exact absurd h0 HNE.out
    have HB3 : Hid (Below w.heap.size w (w3.alloc (.cells #[.int .i64 0, .int .i64 0, .int .i64 0, .int .i64 0, .slice none 0 0] 24))) := by
      have hb := below_more HBW.out hb3 HBW.out.size
      exact hb.alloc hb.size _
    have k0 : (getE (zs.set i v) != 0) = true := by simp [h0]
    clear hb3 h0 HNE
    generalize getE (zs.set i v) = k at *
    go_wp2_with fail
    refine (num_any _ _).mono ?_
    rintro e w' ⟨rfl, rfl⟩
    go_wp2_with fail
    refine (awake_any _).mono ?_
    rintro e w4 ⟨rfl, hb4⟩
    have HB4 : Hid (Below w.heap.size w w4) := below_more HB3.out hb4 HB3.out.size
    clear hb4
    go_wp2
    go_ret
    exact ⟨rfl, HB4.out⟩
  · have hput := put_bad t p s d a xs.length cp (w.alloc (.cells #[.int .i64 t, .int .i64 p, .int .i64 s, .int .i64 d, .slice a xs.length cp] 24)) HE0.out _ rfl hk
    have k0 : (putE t p s d xs.length != 0) = true := by simp [hk]
    clear hb0 hB hz hnil hE
    generalize putE t p s d xs.length = k at *
    go_enter Tryd.func6, Tryd.ntmps6
    go_wp2_with fail
    refine hput.mono ?_
    rintro e w1 ⟨rfl, hb1⟩
    clear hput
    have HB1 : Hid (Below w.heap.size w w1) := below_more HB0.out hb1 (by simp)
    clear hb1
    go_wp2_with fail
    refine (num_any _ _).mono ?_
    rintro e w' ⟨rfl, rfl⟩
    go_wp2_with fail
    refine (num_any _ _).mono ?_
    rintro e w' ⟨rfl, rfl⟩
    go_wp2_with fail
    refine (awake_any _).mono ?_
    rintro e w4 ⟨rfl, hb4⟩
    have HB4 : Hid (Below w.heap.size w w4) := below_more HB1.out hb4 HB1.out.size
    clear hb4
    go_wp2
    go_ret
    exact ⟨rfl, HB4.out⟩
end Go.Proofs.YtknpgpmckabmbaaDoor
