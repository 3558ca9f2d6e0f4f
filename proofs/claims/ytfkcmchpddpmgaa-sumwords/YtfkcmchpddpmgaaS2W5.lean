/- The walk of SumTurned. -/
import Derived.Test.YtfkcmchpddpmgaaS2W4
import Derived.Deep.Cut
namespace Go.Proofs.Ytfkcmchpddpmgaa
open Go.RowKit

theorem mod_in (n : Int) (L : Nat) (h : 1 ≤ L) : ∃ j : Nat, n % (L : Int) = j ∧ j < L := by
  have h1 : n % (L : Int) < (L : Int) := Int.emod_lt_of_pos _ (by omega)
  have h0 : 0 ≤ n % (L : Int) := Int.emod_nonneg _ (by omega)
  exact ⟨(n % (L : Int)).toNat, by omega, by omega⟩

theorem getD_set_same (l : List Int) (j : Nat) (v : Int) (h : j < l.length) : (l.set j v).getD j 0 = v := by simp [h]

set_option maxHeartbeats 800000 in
theorem sumTurned_walk (a : Option Addr) (cap : Nat) (zs : List Int) (n m y : Int) (w : World) (hB : Bts w a zs) (hz : AreBytes zs) (hm : zs.length ≤ maxLen)
    (hn : 0 ≤ n ∧ n ≤ 65535) (hmm : 0 ≤ m ∧ m ≤ 65535) (hy : 0 ≤ y ∧ y ≤ 255) :
    Calls Try.prog 5 #[.slice a zs.length cap, .int .u16 n, .int .u16 m, .int .u8 y] w fun e w' => e = .returned (.bool true) ∧ Below w.heap.size w w' := by
  unfold maxLen at hm
  by_cases h2 : zs.length < 2
  · go_enter Try.func5, Try.ntmps5
    go_wp2_with fail
    refine (awake_any _).mono ?_
    rintro e w2 ⟨rfl, hb2⟩
    go_wp2
    go_ret
    exact ⟨rfl, hb2⟩
  by_cases h3 : 3000 < zs.length
  · go_enter Try.func5, Try.ntmps5
    go_wp2_with fail
    refine (awake_any _).mono ?_
    rintro e w2 ⟨rfl, hb2⟩
    go_wp2
    go_ret
    exact ⟨rfl, hb2⟩
  by_cases h0 : y = 0
  · have t0 : (y == 0) = true := by simp [h0]
    clear h0
    go_enter Try.func5, Try.ntmps5
    go_wp2_with fail
    refine (awake_any _).mono ?_
    rintro e w2 ⟨rfl, hb2⟩
    go_wp2
    go_ret
    exact ⟨rfl, hb2⟩
  have t0 : (y == 0) = false := by simp [h0]
  have H0 : Hid (¬ y = 0) := h0
  clear h0
  go_enter Try.func5, Try.ntmps5
  go_wp2_with fail
  obtain ⟨k, hk, hk1⟩ := mod_place n zs.length (by omega)
  rw [hk]
  clear hk
  refine (pair_any a cap zs k _ hB hz (by omega)).mono ?_
  rintro e w' ⟨rfl, rfl⟩
  obtain ⟨P, X, Y, hP, hPX, hX, hY, x0, x1, y0, y1⟩ := pairAt_of zs k hk1
  rw [hP]
  have e1 : P / 256 = X := by omega
  have e2 : IntKind.u8.wrap P = Y := by rw [IntKind.wrap_u8]; omega
  have p0 : 0 ≤ P ∧ P ≤ 65535 := by omega
  have GC := good_put zs k hk1
  rw [hX, hY] at GC
  have HG : Hid (goodB (putZ zs k X Y) = true) := GC
  clear hP hPX hX hY GC
  obtain ⟨b, off, rfl, hcl⟩ := hB.resolve_left (by rintro rfl; simp at h2)
  clear hcl
  go_wp2_with (at_builtin; refine wp_copy_bytes _ _ rfl rfl _ _ rfl rfl _ _ _ rfl zs rfl hB (by simp) (by omega) ?_)
  intro g cp w1 ho1 hb1
  have lt1 := ho1.lt
  have c0 := ho1.cell k (by omega)
  have c1 := ho1.cell (k + 1) (by omega)
  have f1 := ho1.frozen
  have HO2 : Hid (Owns ((w1.setCell ⟨g, k, none⟩ (.int .u8 X)).setCell ⟨g, k + 1, none⟩ (.int .u8 Y)) _ g cp (putZ zs k X Y)) := (ho1.stored k X).stored (k + 1) Y
  have hb2 := (hb1.setCell (p := ⟨g, k, none⟩) lt1.1 (.int .u8 X)).setCell (p := ⟨g, k + 1, none⟩) lt1.1 (.int .u8 Y)
  have HB2 : Hid (Below _ _ _) := hb2
  clear ho1 hb1 hb2 hB
  go_upto_region 8 with fail
  generalize hW : (w1.setCell ⟨g, k, none⟩ (.int .u8 X)).setCell ⟨g, k + 1, none⟩ (.int .u8 Y) = W2 at *
  clear hW c0 c1 f1
  obtain ⟨j, hj, hj1⟩ := mod_in m zs.length (by omega)
  have hps := areBytes_put hz k X Y ⟨by omega, x1⟩ ⟨by omega, y1⟩
  have hpl := putZ_length zs k X Y
  have HL : Hid ((putZ zs k X Y).length = zs.length) := hpl
  have HZ : Hid (AreBytes (putZ zs k X Y)) := hps
  have c2 := HO2.out.cell j (by rw [hpl]; exact hj1)
  have f2 := HO2.out.frozen
  have hU := areBytes_getD hps j
  obtain ⟨U, hUe⟩ : ∃ U, (putZ zs k X Y).getD j 0 = U := ⟨_, rfl⟩
  rw [hUe] at c2 hU
  have HU : Hid ((putZ zs k X Y).getD j 0 = U) := hUe
  clear hUe
  clear hps hpl hz
  generalize putZ zs k X Y = ps at *
  obtain ⟨N, hN, hN0, hN1⟩ : ∃ N : Int, IntKind.u8.wrap (U + y) = N ∧ 0 ≤ N ∧ N ≤ 255 := ⟨_, rfl, by rw [IntKind.wrap_u8]; omega, by rw [IntKind.wrap_u8]; omega⟩
  have HN : Hid (N ≠ U) := by show _ ≠ _; rw [← hN, IntKind.wrap_u8]; have := H0.out; omega
  have HO3 : Hid (Owns (W2.setCell ⟨g, j, none⟩ (.int .u8 N)) _ g cp (ps.set j N)) := HO2.out.stored j N
  have HB3 : Hid (Below _ _ (W2.setCell ⟨g, j, none⟩ (.int .u8 N))) := HB2.out.setCell (p := ⟨g, j, none⟩) lt1.1 (.int .u8 N)
  go_upto_region 11 with fail
  generalize hW : W2.setCell ⟨g, j, none⟩ (.int .u8 N) = W3 at *
  have c3 := HO3.out.cell j (by rw [List.length_set, HL.out]; exact hj1)
  rw [getD_set_same _ _ _ (by rw [HL.out]; exact hj1)] at c3
  clear hW c2 f2 HO2 HB2 hN
  by_cases o1 : U = 0 ∧ N = 255
  · have s1 : (U == 0) = true := by simp [o1.1]
    have s2 : (N == 255) = true := by simp [o1.2]
    clear o1
    go_wp2_with fail
    refine (awake_any _).mono ?_
    rintro e w5 ⟨rfl, hb5⟩
    go_wp2
    go_ret
    exact ⟨rfl, below_more HB3.out hb5 HB3.out.size⟩
  by_cases o2 : U = 255 ∧ N = 0
  · have s1 : (U == 0) = false := by simp [o2.1]
    have s2 : (U == 255) = true := by simp [o2.1]
    have s3 : (N == 0) = true := by simp [o2.2]
    clear o1 o2
    go_wp2_with fail
    refine (awake_any _).mono ?_
    rintro e w5 ⟨rfl, hb5⟩
    go_wp2
    go_ret
    exact ⟨rfl, below_more HB3.out hb5 HB3.out.size⟩
  have GF := good_turned ps j N (by rw [HL.out]; exact hj1) HG.out (by rw [HU.out]; exact HN.out) hN0 hN1 (by rw [HU.out]; exact hU.1) (by rw [HU.out]; exact hU.2) (by rw [HU.out]; exact o1) (by rw [HU.out]; exact o2)
  have cC := fun W (h : Bts W (some ⟨g, 0, none⟩) (ps.set j N)) => good_at (some ⟨g, 0, none⟩) zs.length cp (ps.set j N) W (by rw [List.length_set, HL.out]) h (areBytes_set HZ.out j N ⟨hN0, hN1⟩) (by rw [List.length_set, HL.out]; omega)
  rw [GF] at cC
  clear GF HG HU HN
  by_cases u0 : U = 0
  · have s1 : (U == 0) = true := by simp [u0]
    have s2 : (N == 255) = false := by simp; omega
    have s3 : (U == 255) = false := by simp [u0]
    clear u0 o1 o2
    go_wp2_with fail
    refine (cC _ HO3.out.bts).mono ?_
    rintro e w4 ⟨rfl, rfl⟩
    go_wp2_with fail
    refine (awake_any _).mono ?_
    rintro e w5 ⟨rfl, hb5⟩
    go_wp2
    go_ret
    exact ⟨rfl, below_more HB3.out hb5 HB3.out.size⟩
  · have s1 : (U == 0) = false := by simp [u0]
    by_cases u1 : U = 255
    · have s2 : (U == 255) = true := by simp [u1]
      have s3 : (N == 0) = false := by simp; omega
      clear u0 u1 o1 o2
      go_wp2_with fail
      refine (cC _ HO3.out.bts).mono ?_
      rintro e w4 ⟨rfl, rfl⟩
      go_wp2_with fail
      refine (awake_any _).mono ?_
      rintro e w5 ⟨rfl, hb5⟩
      go_wp2
      go_ret
      exact ⟨rfl, below_more HB3.out hb5 HB3.out.size⟩
    · have s2 : (U == 255) = false := by simp [u1]
      clear u0 u1 o1 o2
      go_wp2_with fail
      refine (cC _ HO3.out.bts).mono ?_
      rintro e w4 ⟨rfl, rfl⟩
      go_wp2_with fail
      refine (awake_any _).mono ?_
      rintro e w5 ⟨rfl, hb5⟩
      go_wp2
      go_ret
      exact ⟨rfl, below_more HB3.out hb5 HB3.out.size⟩
end Go.Proofs.Ytfkcmchpddpmgaa
