/- The walk of IgmpKinds. -/
import Derived.Test.YtnnmaelnkoihjaaS4L0
import Derived.Deep.QuietTactic
import Derived.BigQuiet
namespace Go.Proofs.Ytnnmaelnkoihjaa
open Go.RowKit

theorem and_28 (a : Int) : bits .and .i64 a 268435455 = a % 268435456 := by
  have := and_field a 0 28 (by decide)
  simpa using this
theorem or_28 (b : Int) (hb : 0 ≤ b) (h2 : b ≤ 268435455) : bits .or .i64 3758096384 b = 3758096384 + b :=
  bits_join .i64 62 (by decide) wraps62 28 3758096384 b (by omega) (by omega) (by omega) (by omega) (by omega) (by omega)
theorem and_nat64 (a b : Int) (ha : 0 ≤ a) (h1 : a ≤ 4294967295) (hb : 0 ≤ b) (h2 : b ≤ 4294967295) : bits .and .i64 a b = ((a.toNat &&& b.toNat : Nat) : Int) := by
  show IntKind.i64.wrap ((BitVec.ofInt 64 a &&& BitVec.ofInt 64 b).toNat : Int) = _
  rw [BitVec.toNat_and, ofInt64_toNat, ofInt64_toNat, show a % 18446744073709551616 = a by omega, show b % 18446744073709551616 = b by omega]
  have : a.toNat &&& b.toNat ≤ a.toNat := Nat.and_le_left
  rw [IntKind.wrap_i64]; omega
theorem ofInt32_toNat (a : Int) (h0 : 0 ≤ a) (h1 : a ≤ 4294967295) : (BitVec.ofInt 32 a).toNat = a.toNat := by
  rw [BitVec.toNat_ofInt]; omega
theorem and_nat32 (a b : Int) (ha : 0 ≤ a) (h1 : a ≤ 4294967295) (hb : 0 ≤ b) (h2 : b ≤ 4294967295) : bits .and .u32 a b = ((a.toNat &&& b.toNat : Nat) : Int) := by
  show IntKind.u32.wrap ((BitVec.ofInt 32 a &&& BitVec.ofInt 32 b).toNat : Int) = _
  rw [BitVec.toNat_and, ofInt32_toNat a ha h1, ofInt32_toNat b hb h2]
  have : a.toNat &&& b.toNat ≤ a.toNat := Nat.and_le_left
  rw [IntKind.wrap_u32]; omega
/-- The two masks, one behind the other, are one. -/
theorem masks_one (x : Int) (h0 : 0 ≤ x) (h1 : x ≤ 4294967295) : bits .and .i64 (bits .and .i64 x 3758096383) 2147483647 = bits .and .u32 x 1610612735 ∧ 0 ≤ bits .and .u32 x 1610612735 ∧ bits .and .u32 x 1610612735 ≤ 1610612735 := by
  have b1 : x.toNat &&& (3758096383 : Int).toNat ≤ x.toNat := Nat.and_le_left
  have b2 : x.toNat &&& (1610612735 : Int).toNat ≤ (1610612735 : Int).toNat := Nat.and_le_right
  rw [and_nat64 x _ h0 h1 (by decide) (by decide), and_nat64 _ _ (by omega) (by omega) (by decide) (by decide), and_nat32 x _ h0 h1 (by decide) (by decide)]
  refine ⟨?_, by omega, by omega⟩
  rw [show (((x.toNat &&& (3758096383 : Int).toNat : Nat) : Int)).toNat = x.toNat &&& (3758096383 : Int).toNat by omega, Nat.and_assoc]
  rfl

theorem put_end (k t g r : Int) (h : putE k t g = r) (X : World) :
    Calls Try.prog 8 #[.agg #[.int .i64 k, .int .i64 t, .int .i64 g]] X fun e w' => ∃ (a : Option Addr) (n cap : Nat), e = .returned (.tuple #[.slice a n cap, .int .i64 r]) ∧ Below X.heap.size X w' := by
  refine (put_any k t g X).mono ?_
  rintro e w' ⟨a, n, cap, rfl, _, _, _, hb⟩
  exact ⟨a, n, cap, by rw [h], hb⟩
theorem put_first (k g c : Int) (h : putE k 0 g = 0) (hc : codeZ k % 256 = c) (X : World) :
    Calls Try.prog 8 #[.agg #[.int .i64 k, .int .i64 0, .int .i64 g]] X fun e w' => ∃ b cap, e = .returned (.tuple #[.slice (some ⟨b, 0, none⟩) 8 cap, .int .i64 0]) ∧ w'.cell? ⟨b, 0, none⟩ = some (.int .u8 c) ∧ Below X.heap.size X w' := by
  refine (put_good k 0 g X h).mono ?_
  rintro e w' ⟨b, cap, rfl, ho, hb⟩
  refine ⟨b, cap, rfl, ?_, hb⟩
  have := ho.cell 0 (by rw [layZ_length]; decide)
  rw [← hc]; exact this
theorem multi_G (x : Int) : multiB (3758096384 + x % 268435456) = true := by unfold multiB; simp; omega
theorem multi_I {i : Int} (h : i ≤ 1610612735) : multiB i = false := by unfold multiB; simp; omega
theorem argB_G {k g : Int} (h : multiB g = true) : argB k 0 g = true := by unfold argB; simp [h]
theorem put_G {k g : Int} (h0 : 1 ≤ k) (h1 : k ≤ 4) (h : multiB g = true) : putE k 0 g = 0 := putE_ok h0 h1 (argB_G h)
theorem put_0 {k : Int} (h0 : 2 ≤ k) (h1 : k ≤ 4) : putE k 0 0 = 1 := putE_arg (by omega) h1 (by rw [argB_not (by omega)]; rfl)
theorem put_T1 {t g : Int} (h0 : 0 ≤ t) (h1 : t ≤ 255) (h : multiB g = true) : putE 1 t g = 0 := putE_ok (by omega) (by omega) (by rw [argB_one h0 h1, h]; rfl)
theorem put_T {k t g : Int} (h0 : 2 ≤ k) (h1 : k ≤ 4) (h : t ≠ 0) : putE k t g = 1 := putE_arg (by omega) h1 (by rw [argB_not (by omega)]; simp [h])
theorem put_I {k g : Int} (h0 : 2 ≤ k) (h1 : k ≤ 4) (h : multiB g = false) : putE k 0 g = 1 := putE_arg (by omega) h1 (by rw [argB_not (by omega), h]; simp)
theorem put_I1 {g : Int} (h : multiB g = false) (h0 : g ≠ 0) : putE 1 0 g = 1 := putE_arg (by omega) (by omega) (by rw [argB_one (by omega) (by omega), h]; simp [h0])

theorem bytes_new (w : World) : (w.alloc (.cells #[.int .u8 17, .int .u8 18, .int .u8 22, .int .u8 23] 5)).cell? ⟨w.heap.size, 0, none⟩ = some (.int .u8 17) ∧ (w.alloc (.cells #[.int .u8 17, .int .u8 18, .int .u8 22, .int .u8 23] 5)).cell? ⟨w.heap.size, 1, none⟩ = some (.int .u8 18) ∧ (w.alloc (.cells #[.int .u8 17, .int .u8 18, .int .u8 22, .int .u8 23] 5)).cell? ⟨w.heap.size, 2, none⟩ = some (.int .u8 22) ∧ (w.alloc (.cells #[.int .u8 17, .int .u8 18, .int .u8 22, .int .u8 23] 5)).cell? ⟨w.heap.size, 3, none⟩ = some (.int .u8 23) := by
  refine ⟨?_, ?_, ?_, ?_⟩ <;> simp
def Four4 (w : World) (b : Nat) : Prop := w.cell? ⟨b, 0, none⟩ = some (.int .u8 17) ∧ w.cell? ⟨b, 1, none⟩ = some (.int .u8 18) ∧ w.cell? ⟨b, 2, none⟩ = some (.int .u8 22) ∧ w.cell? ⟨b, 3, none⟩ = some (.int .u8 23)
theorem Four4.lt {w : World} {b : Nat} (h : Four4 w b) : b < w.heap.size := by
  rcases Nat.lt_or_ge b w.heap.size with h' | h'
  · exact h'
  · have := h.1; simp [World.cell?, Array.getElem?_eq_none h'] at this
theorem Four4.below {w w' : World} {b N : Nat} (h : Four4 w b) (hb : Below N w w') (hN : b < N) : Four4 w' b := by
  obtain ⟨h0, h1, h2, h3⟩ := h
  exact ⟨by rw [hb.cell hN]; exact h0, by rw [hb.cell hN]; exact h1, by rw [hb.cell hN]; exact h2, by rw [hb.cell hN]; exact h3⟩

theorem below_dr {N : Nat} {a w : World} (h : Below N a w) (n : Nat) : Below N a (w.drewN n) := h.trans ⟨rfl, rfl, rfl, Nat.le_refl _, fun _ _ => rfl⟩
theorem cell_lt {w : World} {b i : Nat} {v : Value} (h : w.cell? ⟨b, i, none⟩ = some v) : b < w.heap.size := by
  rcases Nat.lt_or_ge b w.heap.size with h' | h'
  · exact h'
  · simp [World.cell?, Array.getElem?_eq_none h'] at h
theorem cell_kept {w w' : World} {b i : Nat} {v : Value} (h : w.cell? ⟨b, i, none⟩ = some v) (hb : Below w.heap.size w w') : w'.cell? ⟨b, i, none⟩ = some v := by
  rw [hb.cell (show b < _ from cell_lt h)]; exact h
set_option maxRecDepth 20000 in
set_option maxHeartbeats 6400000 in
theorem igmpKinds_walk (x y : Int) (w : World) (hx : 0 ≤ x ∧ x ≤ 4294967295) (hy : 0 ≤ y ∧ y ≤ 255) :
    Calls Try.prog 6 #[.int .u32 x, .int .u8 y] w fun e w' => e = .returned (.bool true) ∧ Below w.heap.size w w' := by
  have e1 := and_28 x
  have e2 := or_28 (x % 268435456) (by omega) (by omega)
  obtain ⟨m1, m2, m3⟩ := masks_one x hx.1 hx.2
  have HG : Hid (multiB (3758096384 + x % 268435456) = true) := multi_G x
  have HI : Hid (multiB (bits .and .u32 x 1610612735) = false) := multi_I m3
  obtain ⟨p, ep⟩ : ∃ p, bits .and .i64 x 3758096383 = p := ⟨_, rfl⟩
  rw [ep] at m1
  generalize eI : bits .and .u32 x 1610612735 = I at *
  have HB : Hid (Below w.heap.size w (w.alloc (.cells #[.int .u8 17, .int .u8 18, .int .u8 22, .int .u8 23] 5))) := below_new' _ _
  have HF : Hid (Four4 (w.alloc (.cells #[.int .u8 17, .int .u8 18, .int .u8 22, .int .u8 23] 5)) w.heap.size) := bytes_new w
  go_enter Try.func6, Try.ntmps6
  go_upto_region 3 with fail
  generalize w.alloc (.cells #[.int .u8 17, .int .u8 18, .int .u8 22, .int .u8 23] 5) = W at *
  generalize 3758096384 + x % 268435456 = G at *
  clear e1 e2
  go_wp2
  go_loopw [7] (fun t wr => ∃ k : Int, t = .int .i64 k ∧ 1 ≤ k ∧ k ≤ 5 ∧ Hid (Four4 wr w.heap.size) ∧ Hid (Below w.heap.size w wr)) (fun t _ => 6 - (intOf t).toNat)
  case atStart => exact ⟨1, rfl, by omega, by omega, HF.out, HB.out⟩
  case round =>
    clear HF HB
    obtain ⟨k, rfl, k1, k5, hF, hB⟩ := hrel
    by_cases h5 : k = 5
    · subst h5
      go_wp2_with fail
      refine (put_end 5 0 G 5 (putE_kind (.inr (by omega))) wr).mono ?_
      rintro e w1 ⟨a1, n1, c1, rfl, hb1⟩
      have HB1 : Hid (Below w.heap.size w w1) := below_more hB.out hb1 hB.out.size
      clear hb1
      go_wp2_with fail
      refine (num_any _ _).mono ?_
      rintro e w' ⟨rfl, rfl⟩
      go_wp2_with fail
      refine (awake_any _).mono ?_
      rintro e w4 ⟨rfl, hb4⟩
      have HB4 : Hid (Below w.heap.size w w4) := below_more HB1.out hb4 HB1.out.size
      clear hb4
      go_wp2
      go_ret
      exact ⟨rfl, HB4.out⟩
    · have ht1 : 1 ≤ 1 + y % 255 ∧ 1 + y % 255 ≤ 255 := by omega
      have hkk : k = 1 ∨ k = 2 ∨ k = 3 ∨ k = 4 := by omega
      rcases hkk with rfl | rfl | rfl | rfl
      · by_cases hI0 : I = 0
        · have q0 : (I == 0) = true := by simp [hI0]
          have HP4 : Hid (putE 1 0 I = 0) := by show _ = _; rw [hI0]; rfl
          clear hI0
          go_wp2_with fail
          refine (put_first 1 G 17 (put_G (by omega) (by omega) HG.out) rfl wr).mono ?_
          rintro e w1 ⟨b, cb, rfl, hc1, hb1⟩
          have HF1 : Hid (Four4 w1 w.heap.size) := hF.out.below hb1 hF.out.lt
          have HB1 : Hid (Below w.heap.size w w1) := below_more hB.out hb1 hB.out.size
          have HC1 : Hid (w1.cell? ⟨b, 0, none⟩ = some (.int .u8 17)) := hc1
          clear hb1 hc1 hF hB
          go_wp2_with fail
          refine (put_end 1 0 0 0 (rfl) _).mono ?_
          rintro e w2 ⟨a2, n2, cp2, rfl, hb2⟩
          have HF2 : Hid (Four4 w2 w.heap.size) := HF1.out.below hb2 HF1.out.lt
          have HB2 : Hid (Below w.heap.size w w2) := below_more HB1.out hb2 HB1.out.size
          have HC2 : Hid (w2.cell? ⟨b, 0, none⟩ = some (.int .u8 17)) := cell_kept HC1.out hb2
          clear hb2 HF1 HB1 HC1
          go_wp2_with fail
          refine (put_end 1 _ _ 0 ?hp _).mono ?_
          case hp => exact put_T1 (by omega) (by omega) HG.out
          rintro e w3 ⟨a3, n3, cp3, rfl, hb3⟩
          have HF3 : Hid (Four4 w3 w.heap.size) := HF2.out.below hb3 HF2.out.lt
          have HB3 : Hid (Below w.heap.size w w3) := below_more HB2.out hb3 HB2.out.size
          have HC3 : Hid (w3.cell? ⟨b, 0, none⟩ = some (.int .u8 17)) := cell_kept HC2.out hb3
          clear hb3 HF2 HB2 HC2
          go_wp2_with fail
          refine (put_end 1 _ _ 0 ?hp _).mono ?_
          case hp => exact HP4.out
          rintro e w4 ⟨a4, n4, cp4, rfl, hb4⟩
          have HF4 : Hid (Four4 w4 w.heap.size) := HF3.out.below hb4 HF3.out.lt
          have HB4 : Hid (Below w.heap.size w w4) := below_more HB3.out hb4 HB3.out.size
          have hc4 : w4.cell? ⟨b, 0, none⟩ = some (.int .u8 17) := cell_kept HC3.out hb4
          clear hb4 HF3 HB3 HC3
          have hd4 : w4.cell? ⟨w.heap.size, 0, none⟩ = some (.int .u8 17) := HF4.out.1
          go_upto_region 10 with fail
          go_quiet ((go_at_call 12; exact Calls.quiet_of_same (num_any _ _)))
          go_wp2
          go_roundw
          case rel => exact ⟨2, rfl, by omega, by omega, HF4.out.below (below_dr (Below.refl _ _) _) HF4.out.lt, below_dr HB4.out _⟩
          case measure => simp [intOf]
        · have q0 : (I == 0) = false := by simp [hI0]
          have HP4 : Hid (putE 1 0 I = 1) := put_I1 HI.out hI0
          clear hI0
          go_wp2_with fail
          refine (put_first 1 G 17 (put_G (by omega) (by omega) HG.out) rfl wr).mono ?_
          rintro e w1 ⟨b, cb, rfl, hc1, hb1⟩
          have HF1 : Hid (Four4 w1 w.heap.size) := hF.out.below hb1 hF.out.lt
          have HB1 : Hid (Below w.heap.size w w1) := below_more hB.out hb1 hB.out.size
          have HC1 : Hid (w1.cell? ⟨b, 0, none⟩ = some (.int .u8 17)) := hc1
          clear hb1 hc1 hF hB
          go_wp2_with fail
          refine (put_end 1 0 0 0 (rfl) _).mono ?_
          rintro e w2 ⟨a2, n2, cp2, rfl, hb2⟩
          have HF2 : Hid (Four4 w2 w.heap.size) := HF1.out.below hb2 HF1.out.lt
          have HB2 : Hid (Below w.heap.size w w2) := below_more HB1.out hb2 HB1.out.size
          have HC2 : Hid (w2.cell? ⟨b, 0, none⟩ = some (.int .u8 17)) := cell_kept HC1.out hb2
          clear hb2 HF1 HB1 HC1
          go_wp2_with fail
          refine (put_end 1 _ _ 0 ?hp _).mono ?_
          case hp => exact put_T1 (by omega) (by omega) HG.out
          rintro e w3 ⟨a3, n3, cp3, rfl, hb3⟩
          have HF3 : Hid (Four4 w3 w.heap.size) := HF2.out.below hb3 HF2.out.lt
          have HB3 : Hid (Below w.heap.size w w3) := below_more HB2.out hb3 HB2.out.size
          have HC3 : Hid (w3.cell? ⟨b, 0, none⟩ = some (.int .u8 17)) := cell_kept HC2.out hb3
          clear hb3 HF2 HB2 HC2
          go_wp2_with fail
          refine (put_end 1 _ _ 1 ?hp _).mono ?_
          case hp => exact HP4.out
          rintro e w4 ⟨a4, n4, cp4, rfl, hb4⟩
          have HF4 : Hid (Four4 w4 w.heap.size) := HF3.out.below hb4 HF3.out.lt
          have HB4 : Hid (Below w.heap.size w w4) := below_more HB3.out hb4 HB3.out.size
          have hc4 : w4.cell? ⟨b, 0, none⟩ = some (.int .u8 17) := cell_kept HC3.out hb4
          clear hb4 HF3 HB3 HC3
          have hd4 : w4.cell? ⟨w.heap.size, 0, none⟩ = some (.int .u8 17) := HF4.out.1
          go_upto_region 10 with fail
          go_quiet ((go_at_call 12; exact Calls.quiet_of_same (num_any _ _)))
          go_wp2
          go_roundw
          case rel => exact ⟨2, rfl, by omega, by omega, HF4.out.below (below_dr (Below.refl _ _) _) HF4.out.lt, below_dr HB4.out _⟩
          case measure => simp [intOf]
      · go_wp2_with fail
        refine (put_first 2 G 18 (put_G (by omega) (by omega) HG.out) rfl wr).mono ?_
        rintro e w1 ⟨b, cb, rfl, hc1, hb1⟩
        have HF1 : Hid (Four4 w1 w.heap.size) := hF.out.below hb1 hF.out.lt
        have HB1 : Hid (Below w.heap.size w w1) := below_more hB.out hb1 hB.out.size
        have HC1 : Hid (w1.cell? ⟨b, 0, none⟩ = some (.int .u8 18)) := hc1
        clear hb1 hc1 hF hB
        go_wp2_with fail
        refine (put_end 2 0 0 1 (put_0 (by omega) (by omega)) _).mono ?_
        rintro e w2 ⟨a2, n2, cp2, rfl, hb2⟩
        have HF2 : Hid (Four4 w2 w.heap.size) := HF1.out.below hb2 HF1.out.lt
        have HB2 : Hid (Below w.heap.size w w2) := below_more HB1.out hb2 HB1.out.size
        have HC2 : Hid (w2.cell? ⟨b, 0, none⟩ = some (.int .u8 18)) := cell_kept HC1.out hb2
        clear hb2 HF1 HB1 HC1
        go_wp2_with fail
        refine (put_end 2 _ _ 1 ?hp _).mono ?_
        case hp => exact put_T (by omega) (by omega) (by omega)
        rintro e w3 ⟨a3, n3, cp3, rfl, hb3⟩
        have HF3 : Hid (Four4 w3 w.heap.size) := HF2.out.below hb3 HF2.out.lt
        have HB3 : Hid (Below w.heap.size w w3) := below_more HB2.out hb3 HB2.out.size
        have HC3 : Hid (w3.cell? ⟨b, 0, none⟩ = some (.int .u8 18)) := cell_kept HC2.out hb3
        clear hb3 HF2 HB2 HC2
        go_wp2_with fail
        refine (put_end 2 _ _ 1 ?hp _).mono ?_
        case hp => exact put_I (by omega) (by omega) HI.out
        rintro e w4 ⟨a4, n4, cp4, rfl, hb4⟩
        have HF4 : Hid (Four4 w4 w.heap.size) := HF3.out.below hb4 HF3.out.lt
        have HB4 : Hid (Below w.heap.size w w4) := below_more HB3.out hb4 HB3.out.size
        have hc4 : w4.cell? ⟨b, 0, none⟩ = some (.int .u8 18) := cell_kept HC3.out hb4
        clear hb4 HF3 HB3 HC3
        have hd4 : w4.cell? ⟨w.heap.size, 1, none⟩ = some (.int .u8 18) := HF4.out.2.1
        go_upto_region 10 with fail
        go_quiet ((go_at_call 12; exact Calls.quiet_of_same (num_any _ _)))
        go_wp2
        go_roundw
        case rel => exact ⟨3, rfl, by omega, by omega, HF4.out.below (below_dr (Below.refl _ _) _) HF4.out.lt, below_dr HB4.out _⟩
        case measure => simp [intOf]
      · go_wp2_with fail
        refine (put_first 3 G 22 (put_G (by omega) (by omega) HG.out) rfl wr).mono ?_
        rintro e w1 ⟨b, cb, rfl, hc1, hb1⟩
        have HF1 : Hid (Four4 w1 w.heap.size) := hF.out.below hb1 hF.out.lt
        have HB1 : Hid (Below w.heap.size w w1) := below_more hB.out hb1 hB.out.size
        have HC1 : Hid (w1.cell? ⟨b, 0, none⟩ = some (.int .u8 22)) := hc1
        clear hb1 hc1 hF hB
        go_wp2_with fail
        refine (put_end 3 0 0 1 (put_0 (by omega) (by omega)) _).mono ?_
        rintro e w2 ⟨a2, n2, cp2, rfl, hb2⟩
        have HF2 : Hid (Four4 w2 w.heap.size) := HF1.out.below hb2 HF1.out.lt
        have HB2 : Hid (Below w.heap.size w w2) := below_more HB1.out hb2 HB1.out.size
        have HC2 : Hid (w2.cell? ⟨b, 0, none⟩ = some (.int .u8 22)) := cell_kept HC1.out hb2
        clear hb2 HF1 HB1 HC1
        go_wp2_with fail
        refine (put_end 3 _ _ 1 ?hp _).mono ?_
        case hp => exact put_T (by omega) (by omega) (by omega)
        rintro e w3 ⟨a3, n3, cp3, rfl, hb3⟩
        have HF3 : Hid (Four4 w3 w.heap.size) := HF2.out.below hb3 HF2.out.lt
        have HB3 : Hid (Below w.heap.size w w3) := below_more HB2.out hb3 HB2.out.size
        have HC3 : Hid (w3.cell? ⟨b, 0, none⟩ = some (.int .u8 22)) := cell_kept HC2.out hb3
        clear hb3 HF2 HB2 HC2
        go_wp2_with fail
        refine (put_end 3 _ _ 1 ?hp _).mono ?_
        case hp => exact put_I (by omega) (by omega) HI.out
        rintro e w4 ⟨a4, n4, cp4, rfl, hb4⟩
        have HF4 : Hid (Four4 w4 w.heap.size) := HF3.out.below hb4 HF3.out.lt
        have HB4 : Hid (Below w.heap.size w w4) := below_more HB3.out hb4 HB3.out.size
        have hc4 : w4.cell? ⟨b, 0, none⟩ = some (.int .u8 22) := cell_kept HC3.out hb4
        clear hb4 HF3 HB3 HC3
        have hd4 : w4.cell? ⟨w.heap.size, 2, none⟩ = some (.int .u8 22) := HF4.out.2.2.1
        go_upto_region 10 with fail
        go_quiet ((go_at_call 12; exact Calls.quiet_of_same (num_any _ _)))
        go_wp2
        go_roundw
        case rel => exact ⟨4, rfl, by omega, by omega, HF4.out.below (below_dr (Below.refl _ _) _) HF4.out.lt, below_dr HB4.out _⟩
        case measure => simp [intOf]
      · go_wp2_with fail
        refine (put_first 4 G 23 (put_G (by omega) (by omega) HG.out) rfl wr).mono ?_
        rintro e w1 ⟨b, cb, rfl, hc1, hb1⟩
        have HF1 : Hid (Four4 w1 w.heap.size) := hF.out.below hb1 hF.out.lt
        have HB1 : Hid (Below w.heap.size w w1) := below_more hB.out hb1 hB.out.size
        have HC1 : Hid (w1.cell? ⟨b, 0, none⟩ = some (.int .u8 23)) := hc1
        clear hb1 hc1 hF hB
        go_wp2_with fail
        refine (put_end 4 0 0 1 (put_0 (by omega) (by omega)) _).mono ?_
        rintro e w2 ⟨a2, n2, cp2, rfl, hb2⟩
        have HF2 : Hid (Four4 w2 w.heap.size) := HF1.out.below hb2 HF1.out.lt
        have HB2 : Hid (Below w.heap.size w w2) := below_more HB1.out hb2 HB1.out.size
        have HC2 : Hid (w2.cell? ⟨b, 0, none⟩ = some (.int .u8 23)) := cell_kept HC1.out hb2
        clear hb2 HF1 HB1 HC1
        go_wp2_with fail
        refine (put_end 4 _ _ 1 ?hp _).mono ?_
        case hp => exact put_T (by omega) (by omega) (by omega)
        rintro e w3 ⟨a3, n3, cp3, rfl, hb3⟩
        have HF3 : Hid (Four4 w3 w.heap.size) := HF2.out.below hb3 HF2.out.lt
        have HB3 : Hid (Below w.heap.size w w3) := below_more HB2.out hb3 HB2.out.size
        have HC3 : Hid (w3.cell? ⟨b, 0, none⟩ = some (.int .u8 23)) := cell_kept HC2.out hb3
        clear hb3 HF2 HB2 HC2
        go_wp2_with fail
        refine (put_end 4 _ _ 1 ?hp _).mono ?_
        case hp => exact put_I (by omega) (by omega) HI.out
        rintro e w4 ⟨a4, n4, cp4, rfl, hb4⟩
        have HF4 : Hid (Four4 w4 w.heap.size) := HF3.out.below hb4 HF3.out.lt
        have HB4 : Hid (Below w.heap.size w w4) := below_more HB3.out hb4 HB3.out.size
        have hc4 : w4.cell? ⟨b, 0, none⟩ = some (.int .u8 23) := cell_kept HC3.out hb4
        clear hb4 HF3 HB3 HC3
        have hd4 : w4.cell? ⟨w.heap.size, 3, none⟩ = some (.int .u8 23) := HF4.out.2.2.2
        go_upto_region 10 with fail
        go_quiet ((go_at_call 12; exact Calls.quiet_of_same (num_any _ _)))
        go_wp2
        go_roundw
        case rel => exact ⟨5, rfl, by omega, by omega, HF4.out.below (below_dr (Below.refl _ _) _) HF4.out.lt, below_dr HB4.out _⟩
        case measure => simp [intOf]
end Go.Proofs.Ytnnmaelnkoihjaa
