/- The walk of SumGood. -/
import Derived.Test.YtfkcmchpddpmgaaS2W3
import Derived.Test.YtfkcmchpddpmgaaOB
namespace Go.Proofs.Ytfkcmchpddpmgaa
open Go.RowKit

theorem good_at (a : Option Addr) (m cap : Nat) (zs : List Int) (w : World) (hm : m = zs.length) (hB : Bts w a zs) (hz : AreBytes zs) (hl : zs.length ≤ 140737488355328) :
    Calls Try.prog 12 #[.slice a m cap] w fun e w' => e = .returned (.bool (goodB zs)) ∧ w' = w := by subst hm; exact good_any a cap zs w hB hz hl
theorem inet_at (a : Option Addr) (m cap : Nat) (zs : List Int) (w : World) (hm : m = zs.length) (hB : Bts w a zs) (hz : AreBytes zs) (hc : zs.length ≤ cap) (hl : zs.length ≤ 140737488355328) :
    Calls Try.prog 8 #[.slice a m cap] w fun e w' => e = .returned (.int .i64 (inetZ zs)) ∧ Below w.heap.size w w' := by subst hm; exact inet_any a cap zs w hB hz hc hl
theorem areBytes_set {zs : List Int} (h : AreBytes zs) (k : Nat) (x : Int) (hx : 0 ≤ x ∧ x ≤ 255) : AreBytes (zs.set k x) := fun z hz => by
  rcases List.mem_or_eq_of_mem_set hz with h' | rfl
  · exact h z h'
  · exact hx
theorem areBytes_put {zs : List Int} (h : AreBytes zs) (k : Nat) (x y : Int) (hx : 0 ≤ x ∧ x ≤ 255) (hy : 0 ≤ y ∧ y ≤ 255) : AreBytes (putZ zs k x y) := areBytes_set (areBytes_set h _ _ hx) _ _ hy
theorem mod_place (n : Int) (L : Nat) (h : 2 ≤ L) : ∃ k : Nat, n % ((L : Int) - 1) = k ∧ k + 1 < L := by
  have h1 : n % ((L : Int) - 1) < (L : Int) - 1 := Int.emod_lt_of_pos _ (by omega)
  have h0 : 0 ≤ n % ((L : Int) - 1) := Int.emod_nonneg _ (by omega)
  exact ⟨(n % ((L : Int) - 1)).toNat, by omega, by omega⟩
theorem pairAt_of (zs : List Int) (k : Nat) (hk : k + 1 < zs.length) : ∃ P X Y : Int, pairAt zs k = P ∧ P = 256 * X + Y ∧ fstZ zs k = X ∧ sndZ zs k = Y ∧ 1 ≤ X ∧ X ≤ 255 ∧ 1 ≤ Y ∧ Y ≤ 255 := by
  refine ⟨_, _, _, rfl, ?_, rfl, rfl, (nzZ_bd _).1, (nzZ_bd _).2, (nzZ_bd _).1, (nzZ_bd _).2⟩
  unfold pairAt pairZ; rw [if_pos (by omega)]; simp

theorem good_is (zs : List Int) (k : Nat) (x y P X Y : Int) (hk : k + 1 < zs.length) (hx : 0 ≤ x ∧ x ≤ 255) (hy : 0 ≤ y ∧ y ≤ 255) (hX : fstZ zs k = X) (hY : sndZ zs k = Y) (hP : P = 256 * X + Y) (x0 : ¬ x = 0) (y0 : ¬ y = 0) :
    (goodB (putZ zs k x y) == (x * 256 + y == P)) = true := by
  have bX : 1 ≤ X ∧ X ≤ 255 := by rw [← hX]; exact nzZ_bd _
  have bY : 1 ≤ Y ∧ Y ≤ 255 := by rw [← hY]; exact nzZ_bd _
  cases g : goodB (putZ zs k x y) with
  | true =>
    have := good_only zs k x y hk (by omega) hx.2 (by omega) hy.2 g
    simp; omega
  | false =>
    have hne : ¬ x * 256 + y = P := by
      intro e
      have ex : x = fstZ zs k := by omega
      have ey : y = sndZ zs k := by omega
      rw [ex, ey, good_put zs k hk] at g
      cases g
    simp [hne]

set_option maxHeartbeats 800000 in
theorem sumGood_walk (a : Option Addr) (cap : Nat) (zs : List Int) (n x y : Int) (w : World) (hB : Bts w a zs) (hz : AreBytes zs) (hc : zs.length ≤ cap) (hm : zs.length ≤ maxLen)
    (hn : 0 ≤ n ∧ n ≤ 65535) (hx : 0 ≤ x ∧ x ≤ 255) (hy : 0 ≤ y ∧ y ≤ 255) :
    Calls Try.prog 4 #[.slice a zs.length cap, .int .u16 n, .int .u8 x, .int .u8 y] w fun e w' => e = .returned (.bool true) ∧ Below w.heap.size w w' := by
  unfold maxLen at hm
  by_cases h2 : zs.length < 2
  · go_enter Try.func4, Try.ntmps4
    go_wp2_with fail
    refine (awake_any _).mono ?_
    rintro e w2 ⟨rfl, hb2⟩
    go_wp2
    go_ret
    exact ⟨rfl, hb2⟩
  by_cases h3 : 3000 < zs.length
  · go_enter Try.func4, Try.ntmps4
    go_wp2_with fail
    refine (awake_any _).mono ?_
    rintro e w2 ⟨rfl, hb2⟩
    go_wp2
    go_ret
    exact ⟨rfl, hb2⟩
  go_enter Try.func4, Try.ntmps4
  go_wp2_with fail
  obtain ⟨k, hk, hk1⟩ := mod_place n zs.length (by omega)
  rw [hk]
  clear hk
  refine (pair_any a cap zs k _ hB hz (by omega)).mono ?_
  rintro e w' ⟨rfl, rfl⟩
  obtain ⟨P, X, Y, hP, hPX, hX, hY, x0, x1, y0, y1⟩ := pairAt_of zs k hk1
  rw [hP]
  have e1 : P / 256 = X := by omega
  have e2 : IntKind.u8.wrap P = Y := by rw [IntKind.wrap_u8]; omega
  have e3 : bits .and .i64 P 255 = Y := by rw [and_255]; omega
  have e4 := or_byte x y hx.1 (by omega) hy.1 hy.2
  have HP : Hid (P = 256 * X + Y) := hPX
  have HX : Hid (fstZ zs k = X) := hX
  have HY : Hid (sndZ zs k = Y) := hY
  have p0 : 0 ≤ P ∧ P ≤ 65535 := by omega
  clear hP hPX hX hY
  obtain ⟨b, off, rfl, hcl⟩ := hB.resolve_left (by rintro rfl; simp at h2)
  clear hcl
  go_wp2_with (at_builtin; refine wp_copy_bytes _ _ rfl rfl _ _ rfl rfl _ _ _ rfl zs rfl hB (by simp) (by omega) ?_)
  intro g cp w1 ho1 hb1
  have lt1 := ho1.lt
  have c0 := ho1.cell k (by omega)
  have c1 := ho1.cell (k + 1) (by omega)
  have f1 := ho1.frozen
  have HO2 : Hid (Owns ((w1.setCell ⟨g, k, none⟩ (.int .u8 X)).setCell ⟨g, k + 1, none⟩ (.int .u8 Y)) _ g cp (putZ zs k X Y)) := (ho1.stored k X).stored (k + 1) Y
  have hb2 := (hb1.setCell (p := ⟨g, k, none⟩) lt1.1 (.int .u8 X)).setCell (p := ⟨g, k + 1, none⟩) lt1.1 (.int .u8 Y)
  have hB2 := hB.below hb2
  have HB2 : Hid (Below _ _ _) := hb2
  clear ho1 hb1 hb2 hB
  go_wp2_with (at_builtin; refine wp_copy_bytes _ _ (by simp) rfl _ _ rfl rfl _ _ _ rfl zs rfl hB2 (by simp) (by omega) ?_)
  intro g2 cp2 w2 ho3 hb3
  have lt2 := ho3.lt
  have c2 := ho3.cell k (by omega)
  have c3 := ho3.cell (k + 1) (by omega)
  have f2 := ho3.frozen
  have HO4 : Hid (Owns ((w2.setCell ⟨g2, k, none⟩ (.int .u8 x)).setCell ⟨g2, k + 1, none⟩ (.int .u8 y)) _ g2 cp2 (putZ zs k x y)) := (ho3.stored k x).stored (k + 1) y
  have hb4 := (hb3.setCell (p := ⟨g2, k, none⟩) lt2.1 (.int .u8 x)).setCell (p := ⟨g2, k + 1, none⟩) lt2.1 (.int .u8 y)
  have HC : Hid (Bts _ (some ⟨g, 0, none⟩) (putZ zs k X Y)) := HO2.out.bts.belowN hb4 (by simp)
  have HB4 : Hid (Below _ _ _) := below_more HB2.out hb4 (by have := HB2.out.size; simp at this; omega)
  clear ho3 hb3 hb4 HB2 HO2 hB2 c0 c1 f1 lt1
  have GC := good_put zs k hk1
  rw [HX.out, HY.out] at GC
  have GD := good_is zs k x y P X Y hk1 hx hy HX.out HY.out HP.out
  have cC := fun W (h : Bts W (some ⟨g, 0, none⟩) (putZ zs k X Y)) => good_at (some ⟨g, 0, none⟩) zs.length cp (putZ zs k X Y) W (by rw [putZ_length]) h (areBytes_put hz k X Y ⟨by omega, x1⟩ ⟨by omega, y1⟩) (by rw [putZ_length]; omega)
  have cD := fun W (h : Bts W (some ⟨g2, 0, none⟩) (putZ zs k x y)) => good_at (some ⟨g2, 0, none⟩) zs.length cp2 (putZ zs k x y) W (by rw [putZ_length]) h (areBytes_put hz k x y hx hy) (by rw [putZ_length]; omega)
  rw [GC] at cC
  have HD : Hid (Bts _ (some ⟨g2, 0, none⟩) (putZ zs k x y)) := HO4.out.bts
  clear HO4 GC HX HY HP
  generalize goodB (putZ zs k x y) = G at *
  by_cases hx0 : x = 0
  · have t1 : (x == 0) = true := by simp [hx0]
    clear GD cD hx0
    go_wp2_with fail
    refine (cC _ HC.out).mono ?_
    rintro e w4 ⟨rfl, rfl⟩
    go_wp2_with fail
    refine (awake_any _).mono ?_
    rintro e w5 ⟨rfl, hb5⟩
    go_wp2
    go_ret
    exact ⟨rfl, below_more HB4.out hb5 HB4.out.size⟩
  · have t1 : (x == 0) = false := by simp [hx0]
    by_cases hy0 : y = 0
    · have t2 : (y == 0) = true := by simp [hy0]
      clear GD cD hx0 hy0
      go_wp2_with fail
      refine (cC _ HC.out).mono ?_
      rintro e w4 ⟨rfl, rfl⟩
      go_wp2_with fail
      refine (awake_any _).mono ?_
      rintro e w5 ⟨rfl, hb5⟩
      go_wp2
      go_ret
      exact ⟨rfl, below_more HB4.out hb5 HB4.out.size⟩
    · have t2 : (y == 0) = false := by simp [hy0]
      have GG := GD hx0 hy0
      clear GD hx0 hy0
      go_wp2_with fail
      refine (cC _ HC.out).mono ?_
      rintro e w4 ⟨rfl, rfl⟩
      go_wp2_with fail
      refine (cD _ HD.out).mono ?_
      rintro e w4 ⟨rfl, rfl⟩
      go_wp2_with fail
      refine (awake_any _).mono ?_
      rintro e w5 ⟨rfl, hb5⟩
      go_wp2
      go_ret
      exact ⟨rfl, below_more HB4.out hb5 HB4.out.size⟩
end Go.Proofs.Ytfkcmchpddpmgaa
