/- The walks of the laws on nets, masks and parts. -/
import Derived.Test.YtjnmaplkikbjjaaDoorW8
namespace Go.Proofs.YtjnmaplkikbjjaaDoor
open Go.RowKit

theorem netN_small (a : Int) (b : Nat) (hb : b ≤ 32) (h0 : 0 ≤ a) (h1 : a ≤ 4294967295) : netN a b = a / 2 ^ (32 - b) * 2 ^ (32 - b) := by
  unfold netN
  have e : a / 2 ^ (32 - b) % 2 ^ b = a / 2 ^ (32 - b) := by
    apply Int.emod_eq_of_lt
    · exact Int.ediv_nonneg h0 (Int.le_of_lt (Int.pow_pos (by decide)))
    · apply Int.ediv_lt_of_lt_mul (Int.pow_pos (by decide))
      rw [← Int.pow_add, show b + (32 - b) = 32 by omega]
      show a < 4294967296
      omega
  rw [e]
theorem netN_range (a : Int) (b : Nat) (hb : b ≤ 32) (h0 : 0 ≤ a) (h1 : a ≤ 4294967295) : 0 ≤ netN a b ∧ netN a b ≤ 4294967295 := by
  have hp : (0 : Int) < 2 ^ (32 - b) := Int.pow_pos (by decide)
  rw [netN_small a b hb h0 h1]
  have e := Int.emod_add_mul_ediv a (2 ^ (32 - b))
  have r := Int.emod_nonneg a (Int.ne_of_gt hp)
  rw [Int.mul_comm] at e
  have q := Int.ediv_nonneg h0 (Int.le_of_lt hp)
  exact ⟨Int.mul_nonneg q (Int.le_of_lt hp), by omega⟩
theorem netN_net (a : Int) (n k : Nat) (hn : n ≤ 32) (hk : k ≤ n) (h0 : 0 ≤ a) (h1 : a ≤ 4294967295) : netN (netN a n) k = netN a k := by
  have r := netN_range a n hn h0 h1
  rw [netN_small _ k (by omega) r.1 r.2, netN_small a k (by omega) h0 h1, netN_small a n hn h0 h1]
  have hp : (0 : Int) < 2 ^ (32 - n) := Int.pow_pos (by decide)
  have e : (2 : Int) ^ (32 - k) = 2 ^ (32 - n) * 2 ^ (n - k) := by rw [← Int.pow_add, show 32 - n + (n - k) = 32 - k by omega]
  have e2 : a / 2 ^ (32 - n) * 2 ^ (32 - n) / 2 ^ (32 - k) = a / 2 ^ (32 - k) := by
    rw [e, ← Int.ediv_ediv_of_nonneg (Int.le_of_lt hp), Int.mul_ediv_cancel _ (Int.ne_of_gt hp), ← Int.ediv_ediv_of_nonneg (Int.le_of_lt hp)]
  rw [e2]
theorem inB_less (a p : Int) (n k : Int) (hn : n ≤ 32) (hk0 : 0 ≤ k) (hk : k ≤ n) (ha : 0 ≤ a ∧ a ≤ 4294967295) (hp : 0 ≤ p ∧ p ≤ 4294967295) (h : inB a p n = true) : inB a p k = true := by
  have ra : rightB a = true := by simp [rightB]; omega
  have rp : rightB p = true := by simp [rightB]; omega
  simp [inB, ra, rp] at h ⊢
  refine ⟨by omega, ?_⟩
  have e := h.2
  rw [← netN_net a n.toNat k.toNat (by omega) (by omega) ha.1 ha.2, ← netN_net p n.toNat k.toNat (by omega) (by omega) hp.1 hp.2, e]
theorem inB_own (a : Int) (n : Int) (hn0 : 0 ≤ n) (hn : n ≤ 32) (ha : 0 ≤ a ∧ a ≤ 4294967295) : inB a (netN a n.toNat) n = true := by
  have r := netN_range a n.toNat (by omega) ha.1 ha.2
  have ra : rightB a = true := by simp [rightB]; omega
  have rp : rightB (netN a n.toNat) = true := by simp [rightB]; omega
  simp [inB, ra, rp]
  exact ⟨by omega, by rw [netN_net a n.toNat n.toNat (by omega) (by omega) ha.1 ha.2]⟩

set_option maxRecDepth 100000 in
set_option maxHeartbeats 1600000 in
theorem nests_law (a p b l : Int) (w : World) (E : Env w) (ha : 0 ≤ a ∧ a ≤ 4294967295) (hp : 0 ≤ p ∧ p ≤ 4294967295) (hb : 0 ≤ b ∧ b ≤ 255) (hl : 0 ≤ l ∧ l ≤ 255) :
    Calls Tryd.prog 6 #[.int .u32 a, .int .u32 p, .int .u8 b, .int .u8 l] w fun e w' => e = .returned (.bool true) ∧ Below w.heap.size w w' := by
  obtain ⟨ha0, ha1⟩ := ha
  obtain ⟨hp0, hp1⟩ := hp
  obtain ⟨hb0, hb1⟩ := hb
  obtain ⟨hl0, hl1⟩ := hl
  have m0 : 0 ≤ l % (b % 33 + 1) := Int.emod_nonneg _ (by omega)
  have m1 : l % (b % 33 + 1) < b % 33 + 1 := Int.emod_lt_of_pos _ (by omega)
  go_enter Tryd.func6, Tryd.ntmps6
  go_wp2_with fail
  generalize hn : b % 33 = n at *
  have hn0 : 0 ≤ n := by omega
  have hn1 : n ≤ 32 := by omega
  generalize hm : l % (n + 1) = m at *
  clear hn hm
  have own := inB_own a n hn0 hn1 ⟨ha0, ha1⟩
  have HO : Hid (inB a (netN a n.toNat) n = true) := own
  clear own
  have less : inB a p n = true → inB a p (n - m) = true := inB_less a p n (n - m) hn1 (by omega) (by omega) ⟨ha0, ha1⟩ ⟨hp0, hp1⟩
  have HL : Hid (inB a p n = true → inB a p (n - m) = true) := less
  clear less
  have netk : Hid (netN (netN a n.toNat) (n - m).toNat = netN a (n - m).toNat) := netN_net a n.toNat (n - m).toNat (by omega) (by omega) ha0 ha1
  refine (in_any _ _ _ _).mono ?_
  rintro e w' ⟨rfl, rfl⟩
  cases hi : inB a p n with
  | true =>
    have hi2 := HL.out hi
    clear HL hi
    go_wp2_with fail
    refine (in_any _ _ _ _).mono ?_
    rintro e w' ⟨rfl, rfl⟩
    go_wp2_with fail
    refine (net_any _ _ _).mono ?_
    rintro e w' ⟨rfl, rfl⟩
    rw [clampN_of n hn0 hn1]
    go_wp2_with fail
    refine (in_any _ _ _ _).mono ?_
    rintro e w' ⟨rfl, rfl⟩
    rw [HO.out]
    go_wp2_with fail
    refine (net_any _ _ _).mono ?_
    rintro e w' ⟨rfl, rfl⟩
    rw [clampN_of n hn0 hn1]
    go_wp2_with fail
    refine (net_any _ _ _).mono ?_
    rintro e w' ⟨rfl, rfl⟩
    rw [clampN_of (n - m) (by omega) (by omega), netk.out]
    go_wp2_with fail
    refine (net_any _ _ _).mono ?_
    rintro e w' ⟨rfl, rfl⟩
    rw [clampN_of (n - m) (by omega) (by omega)]
    go_wp2_with fail
    refine (awake_any _ E).mono ?_
    rintro e w5 ⟨rfl, hb5⟩
    go_wp2
    go_ret
    exact ⟨rfl, hb5⟩
  | false =>
    clear HL hi
    go_wp2_with fail
    refine (net_any _ _ _).mono ?_
    rintro e w' ⟨rfl, rfl⟩
    rw [clampN_of n hn0 hn1]
    go_wp2_with fail
    refine (in_any _ _ _ _).mono ?_
    rintro e w' ⟨rfl, rfl⟩
    rw [HO.out]
    go_wp2_with fail
    refine (net_any _ _ _).mono ?_
    rintro e w' ⟨rfl, rfl⟩
    rw [clampN_of n hn0 hn1]
    go_wp2_with fail
    refine (net_any _ _ _).mono ?_
    rintro e w' ⟨rfl, rfl⟩
    rw [clampN_of (n - m) (by omega) (by omega), netk.out]
    go_wp2_with fail
    refine (net_any _ _ _).mono ?_
    rintro e w' ⟨rfl, rfl⟩
    rw [clampN_of (n - m) (by omega) (by omega)]
    go_wp2_with fail
    refine (awake_any _ E).mono ?_
    rintro e w5 ⟨rfl, hb5⟩
    go_wp2
    go_ret
    exact ⟨rfl, hb5⟩

theorem masks_bits : ∀ n : Fin 33, bitsZ (maskN n.val) = n.val ∧ wrap64 (maskN n.val + wrap64 (2 ^ (32 - n.val))) = 4294967296 := by decide +kernel
theorem masks_33 (b : Int) (h : 0 ≤ b) : maskN (clampN (b + 33)) = 4294967295 := by
  have e : clampN (b + 33) = 32 := by unfold clampN; rw [if_pos (by omega)]
  rw [e]; rfl
theorem masks_neg (b : Int) (h : 0 ≤ b) : maskN (clampN (-1 - b)) = 0 := by
  have e : clampN (-1 - b) = 0 := by unfold clampN; rw [if_neg (by omega)]; omega
  rw [e]; rfl
set_option maxRecDepth 100000 in
set_option maxHeartbeats 1600000 in
theorem masks_law (b : Int) (w : World) (E : Env w) (hb0 : 0 ≤ b) (hb1 : b ≤ 255) :
    Calls Tryd.prog 7 #[.int .u8 b] w fun e w' => e = .returned (.bool true) ∧ Below w.heap.size w w' := by
  have M1 : bitsZ (maskN (clampN (b % 33))) = b % 33 := by
    have h1 := (masks_bits ⟨(b % 33).toNat, by omega⟩).1
    rw [clampN_of _ (by omega) (by omega), h1]; simp; omega
  have M2 : wrap64 (maskN (clampN (b % 33)) + wrap64 (2 ^ (32 - b % 33).toNat)) = 4294967296 := by
    have h1 := (masks_bits ⟨(b % 33).toNat, by omega⟩).2
    rw [clampN_of _ (by omega) (by omega), show (32 - b % 33).toNat = 32 - (b % 33).toNat by omega, h1]
  have H1 : Hid (bitsZ (maskN (clampN (b % 33))) = b % 33) := M1
  have H2 : Hid (wrap64 (maskN (clampN (b % 33)) + wrap64 (2 ^ (32 - b % 33).toNat)) = 4294967296) := M2
  clear M1 M2
  go_enter Tryd.func7, Tryd.ntmps7
  go_wp2_with fail
  refine (mask_any _ _).mono ?_
  rintro e w' ⟨rfl, rfl⟩
  go_wp2_with fail
  refine (bits_any _ _).mono ?_
  rintro e w' ⟨rfl, rfl⟩
  rw [H1.out]
  have h2 := H2.out
  go_wp2_with fail
  refine (mask_any _ _).mono ?_
  rintro e w' ⟨rfl, rfl⟩
  rw [masks_33 b hb0]
  go_wp2_with fail
  refine (mask_any _ _).mono ?_
  rintro e w' ⟨rfl, rfl⟩
  rw [masks_neg b hb0]
  go_wp2_with fail
  refine (awake_any _ E).mono ?_
  rintro e w5 ⟨rfl, hb5⟩
  go_wp2
  go_ret
  exact ⟨rfl, hb5⟩
theorem or_four (a b c d : Int) (ha0 : 0 ≤ a) (ha1 : a ≤ 255) (hb0 : 0 ≤ b) (hb1 : b ≤ 255) (hc0 : 0 ≤ c) (hc1 : c ≤ 255) (hd0 : 0 ≤ d) (hd1 : d ≤ 255) :
    bits .or .i64 (bits .or .i64 (bits .or .i64 (a * 16777216) (b * 65536)) (c * 256)) d = a * 16777216 + b * 65536 + c * 256 + d := by
  have W : ∀ m : Int, 0 ≤ m → m < 2 ^ 62 → IntKind.i64.wrap m = m := fun m h0 h1 => by rw [IntKind.wrap_i64]; omega
  rw [bits_join .i64 62 (by decide) W 24 (a * 16777216) (b * 65536) (by omega) (by omega) (by omega) (by omega) (by omega) (by omega)]
  rw [bits_join .i64 62 (by decide) W 16 (a * 16777216 + b * 65536) (c * 256) (by omega) (by omega) (by omega) (by omega) (by omega) (by omega)]
  rw [bits_join .i64 62 (by decide) W 8 (a * 16777216 + b * 65536 + c * 256) d (by omega) (by omega) (by omega) (by omega) (by omega) (by omega)]
theorem text_four (a b c d x : Int) (hx : x = a * 16777216 + b * 65536 + c * 256 + d) (ha0 : 0 ≤ a) (ha1 : a ≤ 255) (hb0 : 0 ≤ b) (hb1 : b ≤ 255) (hc0 : 0 ≤ c) (hc1 : c ≤ 255) (hd0 : 0 ≤ d) (hd1 : d ≤ 255) :
    (⟨(Lib.decDigits a.toNat).toArray⟩ ++ ⟨#[46]⟩ ++ ⟨(Lib.decDigits b.toNat).toArray⟩ ++ ⟨#[46]⟩ ++ ⟨(Lib.decDigits c.toNat).toArray⟩ ++ ⟨#[46]⟩ ++ ⟨(Lib.decDigits d.toNat).toArray⟩ : ByteArray) = ⟨(textL x).toArray⟩ := by
  rw [textL_eq, show x / 16777216 % 256 = a by omega, show x / 65536 % 256 = b by omega, show x / 256 % 256 = c by omega, show x % 256 = d by omega]
  apply ByteArray.ext; simp
set_option maxRecDepth 100000 in
set_option maxHeartbeats 1600000 in
theorem parts_law (a b c d : Int) (w : World) (E : Env w) (ha : 0 ≤ a ∧ a ≤ 255) (hb : 0 ≤ b ∧ b ≤ 255) (hc : 0 ≤ c ∧ c ≤ 255) (hd : 0 ≤ d ∧ d ≤ 255) :
    Calls Tryd.prog 8 #[.int .u8 a, .int .u8 b, .int .u8 c, .int .u8 d] w fun e w' => e = .returned (.bool true) ∧ Below w.heap.size w w' := by
  obtain ⟨ha0, ha1⟩ := ha
  obtain ⟨hb0, hb1⟩ := hb
  obtain ⟨hc0, hc1⟩ := hc
  obtain ⟨hd0, hd1⟩ := hd
  have z0 := dec_len a (by omega) (by omega)
  have z1 := dec_len b (by omega) (by omega)
  have z2 := dec_len c (by omega) (by omega)
  have z3 := dec_len d (by omega) (by omega)
  obtain ⟨x, hx⟩ : ∃ x, x = a * 16777216 + b * 65536 + c * 256 + d := ⟨_, rfl⟩
  have HT : Hid ((⟨(Lib.decDigits a.toNat).toArray⟩ ++ ⟨#[46]⟩ ++ ⟨(Lib.decDigits b.toNat).toArray⟩ ++ ⟨#[46]⟩ ++ ⟨(Lib.decDigits c.toNat).toArray⟩ ++ ⟨#[46]⟩ ++ ⟨(Lib.decDigits d.toNat).toArray⟩ : ByteArray) = ⟨(textL x).toArray⟩) := text_four a b c d x hx ha0 ha1 hb0 hb1 hc0 hc1 hd0 hd1
  have HO : Hid (bits .or .i64 (bits .or .i64 (bits .or .i64 (a * 16777216) (b * 65536)) (c * 256)) d = x) := by rw [hx]; exact or_four a b c d ha0 ha1 hb0 hb1 hc0 hc1 hd0 hd1
  have hR : rightB x = true := by simp [rightB]; omega
  have HM : multiB x = (decide (224 ≤ a) && decide (a ≤ 239)) := by unfold multiB; rw [Bool.eq_iff_iff]; simp; omega
  have hM : Hid (multiB x = (decide (224 ≤ a) && decide (a ≤ 239))) := HM
  clear hx HM
  go_enter Tryd.func8, Tryd.ntmps8
  go_wp2_with fail
  rw [HO.out]
  refine (three_any _ _ (by omega) (by omega)).mono ?_
  rintro e w1 ⟨rfl, hb1'⟩
  go_wp2_with fail
  refine (three_any _ _ (by omega) (by omega)).mono ?_
  rintro e w2 ⟨rfl, hb2'⟩
  go_wp2_with fail
  refine (three_any _ _ (by omega) (by omega)).mono ?_
  rintro e w3 ⟨rfl, hb3'⟩
  go_wp2_with fail
  refine (three_any _ _ (by omega) (by omega)).mono ?_
  rintro e w4 ⟨rfl, hb4'⟩
  have hB : Below w.heap.size w w4 := ((hb1'.trans (hb2'.mono hb1'.size)).trans (hb3'.mono (Nat.le_trans hb1'.size hb2'.size))).trans (hb4'.mono (Nat.le_trans (Nat.le_trans hb1'.size hb2'.size) hb3'.size))
  have E4 := E.below hB E.sz
  go_wp2_with fail
  rw [HT.out]
  refine (text_any _ _ E4).mono ?_
  rintro e w5 ⟨rfl, hb5'⟩
  have hB5 := hB.trans (hb5'.mono hB.size)
  have E5 := E.below hB5 E.sz
  go_wp2_with fail
  refine (multi_any _ _).mono ?_
  rintro e w' ⟨rfl, rfl⟩
  rw [hM.out]
  by_cases h1 : 224 ≤ a
  · by_cases h2 : a ≤ 239
    · go_wp2_with fail
      refine (right_any _ _).mono ?_
      rintro e w' ⟨rfl, rfl⟩
      go_wp2_with fail
      refine (awake_any _ E5).mono ?_
      rintro e w6 ⟨rfl, hb6⟩
      go_wp2
      go_ret
      exact ⟨rfl, hB5.trans (hb6.mono hB5.size)⟩
    · go_wp2_with fail
      refine (right_any _ _).mono ?_
      rintro e w' ⟨rfl, rfl⟩
      go_wp2_with fail
      refine (awake_any _ E5).mono ?_
      rintro e w6 ⟨rfl, hb6⟩
      go_wp2
      go_ret
      exact ⟨rfl, hB5.trans (hb6.mono hB5.size)⟩
  · go_wp2_with fail
    refine (right_any _ _).mono ?_
    rintro e w' ⟨rfl, rfl⟩
    go_wp2_with fail
    refine (awake_any _ E5).mono ?_
    rintro e w6 ⟨rfl, hb6⟩
    go_wp2
    go_ret
    exact ⟨rfl, hB5.trans (hb6.mono hB5.size)⟩
end Go.Proofs.YtjnmaplkikbjjaaDoor
