/- The walk of SumWords. -/
import Derived.Test.YtfkcmchpddpmgaaS2W5
namespace Go.Proofs.Ytfkcmchpddpmgaa
open Go.RowKit

theorem wordsZ_set : ∀ (L : List Int) (k : Nat) (v : Int), k < L.length → wordsZ (L.set k v) = wordsZ L + (if k % 2 = 0 then 256 else 1) * (v - L.getD k 0)
  | [], k, v, h => by simp at h
  | [a], 0, v, _ => by simp [wordsZ]; omega
  | [a], k + 1, v, h => by simp at h
  | a :: b :: r, 0, v, _ => by simp [wordsZ]; omega
  | a :: b :: r, 1, v, _ => by simp [wordsZ]; omega
  | a :: b :: r, k + 2, v, h => by
    have := wordsZ_set r k v (by simpa using h)
    simp only [List.set_cons_succ, wordsZ, this, List.getD_cons_succ, show (k + 2) % 2 = k % 2 by omega]
    omega
/-- Two words, exchanged. -/
def swapZ (L : List Int) (p q : Nat) : List Int := (((L.set p (L.getD q 0)).set (p + 1) (L.getD (q + 1) 0)).set q (L.getD p 0)).set (q + 1) (L.getD (p + 1) 0)
theorem getD_set_ne (l : List Int) (j k : Nat) (v : Int) (h : j ≠ k) : (l.set j v).getD k 0 = l.getD k 0 := by
  simp [List.getD_eq_getElem?_getD, h]
theorem words_swap (L : List Int) (p q : Nat) (hp : p % 2 = 0) (hq : q % 2 = 0) (hp1 : p + 1 < L.length) (hq1 : q + 1 < L.length) : wordsZ (swapZ L p q) = wordsZ L := by
  unfold swapZ
  rw [wordsZ_set _ _ _ (by simp; omega), wordsZ_set _ _ _ (by simp; omega), wordsZ_set _ _ _ (by simp; omega), wordsZ_set _ _ _ (by omega)]
  rw [if_pos hp, if_pos hq, if_neg (show ¬ (p + 1) % 2 = 0 by omega), if_neg (show ¬ (q + 1) % 2 = 0 by omega)]
  rw [getD_set_ne _ p (p + 1) _ (by omega)]
  by_cases e : p = q
  · subst e
    rw [getD_set_ne _ (p + 1) p _ (by omega), getD_set_same _ p _ (by omega), getD_set_ne _ p (p + 1) _ (by omega), getD_set_same _ (p + 1) _ (by simp; omega)]
    omega
  · rw [getD_set_ne _ (p + 1) q _ (by omega), getD_set_ne _ p q _ (by omega), getD_set_ne _ q (q + 1) _ (by omega), getD_set_ne _ (p + 1) (q + 1) _ (by omega), getD_set_ne _ p (q + 1) _ (by omega)]
    omega
theorem swapZ_length (L : List Int) (p q : Nat) : (swapZ L p q).length = L.length := by simp [swapZ]
theorem areBytes_swap {L : List Int} (h : AreBytes L) (p q : Nat) : AreBytes (swapZ L p q) :=
  areBytes_set (areBytes_set (areBytes_set (areBytes_set h _ _ (areBytes_getD h _)) _ _ (areBytes_getD h _)) _ _ (areBytes_getD h _)) _ _ (areBytes_getD h _)
theorem areBytes_two {L : List Int} (h : AreBytes L) {x y : Int} (hx : 0 ≤ x ∧ x ≤ 255) (hy : 0 ≤ y ∧ y ≤ 255) : AreBytes (L ++ [x, y]) := fun z hz => by
  simp at hz
  rcases hz with hz | rfl | rfl
  · exact h z hz
  · exact hx
  · exact hy
/-- With the sum itself behind them it is nothing. -/
theorem inet_self (L : List Int) (h : AreBytes L) (he : L.length % 2 = 0) : inetZ (L ++ [inetZ L / 256, inetZ L % 256]) = 0 := by
  have hb := wordsZ_bd L h
  have e : wordsZ (L ++ [inetZ L / 256, inetZ L % 256]) = wordsZ L + inetZ L := by rw [wordsZ_even _ _ he]; simp only [wordsZ]; omega
  unfold inetZ at *
  rw [e, foldZ_full _ hb.1]; omega

set_option maxHeartbeats 800000 in
theorem sumWords_walk (a : Option Addr) (cap : Nat) (zs : List Int) (i j : Int) (w : World) (hB : Bts w a zs) (hz : AreBytes zs) (hc : zs.length ≤ cap) (hm : zs.length ≤ maxLen)
    (hi : 0 ≤ i ∧ i ≤ 65535) (hj : 0 ≤ j ∧ j ≤ 65535) :
    Calls Try.prog 6 #[.slice a zs.length cap, .int .u16 i, .int .u16 j] w fun e w' => e = .returned (.bool true) ∧ Below w.heap.size w w' := by
  unfold maxLen at hm
  by_cases h2 : zs.length < 2
  · have t0 : ((zs.length : Int) / 2 == 0) = true := by simp; omega
    go_enter Try.func6, Try.ntmps6
    go_wp2_with fail
    refine (awake_any _).mono ?_
    rintro e w2 ⟨rfl, hb2⟩
    go_wp2
    go_ret
    exact ⟨rfl, hb2⟩
  by_cases h3 : 3000 < zs.length
  · go_enter Try.func6, Try.ntmps6
    go_wp2_with fail
    refine (awake_any _).mono ?_
    rintro e w2 ⟨rfl, hb2⟩
    go_wp2
    go_ret
    exact ⟨rfl, hb2⟩
  obtain ⟨n, hn, hn1, hn2⟩ : ∃ n : Nat, (zs.length : Int) / 2 = n ∧ 1 ≤ n ∧ 2 * n ≤ zs.length := ⟨zs.length / 2, by omega, by omega, by omega⟩
  obtain ⟨i', hi', hi1⟩ := mod_in i n hn1
  obtain ⟨j', hj', hj1⟩ := mod_in j n hn1
  have t0 : ((n : Int) == 0) = false := by simp; omega
  obtain ⟨b, off, rfl, hcl⟩ := hB.resolve_left (by rintro rfl; simp at h2)
  have hBL : Bts w (some ⟨b, off, none⟩) (zs.take (2 * n)) := .inr ⟨b, off, rfl, fun k hk => by
    simp at hk
    rw [hcl k (by omega)]; simp [List.getD_eq_getElem?_getD, show k < 2 * n by omega]⟩
  have hzL := areBytes_take hz (2 * n)
  have hlL : (zs.take (2 * n)).length = 2 * n := by simp; omega
  clear hcl hB hz
  generalize zs.take (2 * n) = L at *
  have HL : Hid (L.length = 2 * n) := hlL
  have HZ : Hid (AreBytes L) := hzL
  clear hlL hzL
  go_enter Try.func6, Try.ntmps6
  go_upto_region 4 with fail
  go_wp2_with (at_builtin; refine wp_copy_bytes _ _ rfl rfl _ _ rfl rfl _ _ _ rfl L (by rw [HL.out]) hBL (by simp) (by rw [HL.out]; omega) ?_)
  intro g cp w1 ho1 hb1
  have lt1 := ho1.lt
  have HB1 : Hid (Below _ _ w1) := hb1
  have HO1 : Hid (Owns w1 _ g cp L) := ho1
  have x0 := areBytes_getD HZ.out (2 * i')
  have x1 := areBytes_getD HZ.out (2 * i' + 1)
  have y0 := areBytes_getD HZ.out (2 * j')
  have y1 := areBytes_getD HZ.out (2 * j' + 1)
  have c0 := ho1.cell (2 * i') (by rw [HL.out]; omega)
  have c1 := ho1.cell (2 * i' + 1) (by rw [HL.out]; omega)
  have c2 := ho1.cell (2 * j') (by rw [HL.out]; omega)
  have f1 := ho1.frozen
  clear ho1 hb1
  obtain ⟨X0, e0⟩ : ∃ v, L.getD (2 * i') 0 = v := ⟨_, rfl⟩
  obtain ⟨X1, e1⟩ : ∃ v, L.getD (2 * i' + 1) 0 = v := ⟨_, rfl⟩
  obtain ⟨Y0, e2⟩ : ∃ v, L.getD (2 * j') 0 = v := ⟨_, rfl⟩
  obtain ⟨Y1, e3⟩ : ∃ v, L.getD (2 * j' + 1) 0 = v := ⟨_, rfl⟩
  have HS : Hid (swapZ L (2 * i') (2 * j') = (((L.set (2 * i') Y0).set (2 * i' + 1) Y1).set (2 * j') X0).set (2 * j' + 1) X1) := by show _ = _; unfold swapZ; rw [e0, e1, e2, e3]
  have E3 : Hid (L.getD (2 * j' + 1) 0 = Y1) := e3
  rw [e0] at c0 x0
  rw [e1] at c1 x1
  rw [e2] at c2 y0
  rw [e3] at y1
  clear e0 e1 e2 e3
  go_wp2_with fail
  go_region
  go_wp2_with fail
  go_region
  have HO2 : Hid (Owns (w1.setCell ⟨g, 2 * i', none⟩ (.int .u8 Y0)).drew.drew _ g cp (L.set (2 * i') Y0)) := (HO1.out.stored _ _).drew.drew
  have HB2 : Hid (Below w.heap.size w (w1.setCell ⟨g, 2 * i', none⟩ (.int .u8 Y0)).drew.drew) := (HB1.out.setCell lt1.1 _).drew.drew
  go_upto_region 8 with fail
  generalize (w1.setCell ⟨g, 2 * i', none⟩ (.int .u8 Y0)).drew.drew = W2 at *
  clear c0 c1 c2 f1 HO1 HB1
  have c0 := HO2.out.cell (2 * i' + 1) (by rw [List.length_set, HL.out]; omega)
  have c1 := HO2.out.cell (2 * j' + 1) (by rw [List.length_set, HL.out]; omega)
  rw [getD_set_ne _ _ _ _ (by omega), E3.out] at c1
  have f1 := HO2.out.frozen
  have HO3 : Hid (Owns (W2.setCell ⟨g, 2 * i' + 1, none⟩ (.int .u8 Y1)) _ g cp _) := HO2.out.stored _ _
  have HB3 : Hid (Below w.heap.size w (W2.setCell ⟨g, 2 * i' + 1, none⟩ (.int .u8 Y1))) := HB2.out.setCell lt1.1 _
  go_upto_region 9 with fail
  generalize W2.setCell ⟨g, 2 * i' + 1, none⟩ (.int .u8 Y1) = W3 at *
  clear c0 c1 f1 HO2 HB2 E3
  have c0 := HO3.out.cell (2 * j') (by rw [List.length_set, List.length_set, HL.out]; omega)
  have f1 := HO3.out.frozen
  have HO4 : Hid (Owns (W3.setCell ⟨g, 2 * j', none⟩ (.int .u8 X0)) _ g cp _) := HO3.out.stored _ _
  have HB4 : Hid (Below w.heap.size w (W3.setCell ⟨g, 2 * j', none⟩ (.int .u8 X0))) := HB3.out.setCell lt1.1 _
  go_upto_region 10 with fail
  generalize W3.setCell ⟨g, 2 * j', none⟩ (.int .u8 X0) = W4 at *
  clear c0 f1 HO3 HB3
  have c0 := HO4.out.cell (2 * j' + 1) (by rw [List.length_set, List.length_set, List.length_set, HL.out]; omega)
  have f1 := HO4.out.frozen
  have HO5 : Hid (Owns (W4.setCell ⟨g, 2 * j' + 1, none⟩ (.int .u8 X1)) w.heap.size g cp (swapZ L (2 * i') (2 * j'))) := by rw [HS.out]; exact HO4.out.stored _ _
  have HB5 : Hid (Below w.heap.size w (W4.setCell ⟨g, 2 * j' + 1, none⟩ (.int .u8 X1))) := HB4.out.setCell lt1.1 _
  go_upto_region 11 with fail
  generalize W4.setCell ⟨g, 2 * j' + 1, none⟩ (.int .u8 X1) = W5 at *
  clear c0 f1 HO4 HB4 HS
  have hS := inetZ_bd L
  have HQ : Hid (inetZ (swapZ L (2 * i') (2 * j')) = inetZ L) := by show _ = _; unfold inetZ; rw [words_swap L _ _ (by omega) (by omega) (by rw [HL.out]; omega) (by rw [HL.out]; omega)]
  have HD : Hid (inetZ (L ++ [inetZ L / 256, inetZ L % 256]) = 0) := inet_self L HZ.out (by rw [HL.out]; omega)
  have cI := fun W (h : Bts W (some ⟨b, off, none⟩) L) => inet_at (some ⟨b, off, none⟩) (2 * n) cap L W (by rw [HL.out]) h HZ.out (by rw [HL.out]; omega) (by rw [HL.out]; omega)
  obtain ⟨S, eS⟩ : ∃ S, inetZ L = S := ⟨_, rfl⟩
  rw [eS] at hS HQ HD cI
  clear eS x0 x1 y0 y1
  have e1 : IntKind.u8.wrap S = S % 256 := by rw [IntKind.wrap_u8]
  go_wp2_with fail
  refine (cI _ (hBL.below HB5.out)).mono ?_
  rintro e W6 ⟨rfl, hb6⟩
  have HB6 : Hid (Below w.heap.size w W6) := below_two HB5.out hb6
  have HO6 : Hid (Owns W6 _ g cp (swapZ L (2 * i') (2 * j'))) := HO5.out.below hb6
  have hB6 := hBL.below HB6.out
  clear hb6 HB5 HO5 hBL
  go_wp2_with (at_builtin; refine wp_copy_bytes _ _ rfl rfl _ _ rfl rfl _ _ _ rfl L (by rw [HL.out]) hB6 (by simp) (by rw [HL.out]; omega) ?_)
  intro g2 cp2 W7 ho7 hb7
  have HO7 : Hid (Owns W7 _ g2 cp2 L) := ho7
  have HC7 : Hid (Owns W7 _ g cp (swapZ L (2 * i') (2 * j'))) := HO6.out.below hb7
  have HB7 : Hid (Below w.heap.size w W7) := below_two HB6.out hb7
  have s6 := HB6.out.size
  have S6 : Hid (w.heap.size ≤ W6.heap.size) := s6
  have g6 := HO6.out.lt.2
  have s7 := hb7.size
  clear s6 ho7 hb7 HB6 HO6 hB6
  have HN : Hid (g < W6.heap.size) := g6
  clear g6
  go_wp2_with (at_builtin; go_must (refine wp_append_bytes _ rfl _ _ rfl _ g2 cp2 L (2 * n) rfl (by rw [HL.out]) (HO7.out.alloc _) _ _ _ rfl [S / 256, S % 256] rfl (bts_two _ _ _) (by simp) (by rw [HL.out]; simp; omega) (by simp; omega) ?_))
  intro g3 cp3 W8 ho8 hg8
  have HO8 : Hid (Owns W8 _ g3 cp3 (L ++ [S / 256, S % 256])) := ho8
  have lt2 := HO7.out.lt
  have HC8 : Hid (Owns W8 _ g cp (swapZ L (2 * i') (2 * j'))) := (HC7.out.alloc _).grown hg8 (by have := HN.out; omega)
  have HB8 : Hid (Below w.heap.size w W8) := (HB7.out.alloc (by have := HB7.out.size; omega) _).grown hg8 (by have := HB7.out.size; simp; omega) (fun k hk => by cases hk; have := S6.out; omega)
  clear ho8 hg8 HO7 HC7 HB7 HN
  have cC := fun W (h : Bts W (some ⟨g, 0, none⟩) (swapZ L (2 * i') (2 * j'))) => inet_at (some ⟨g, 0, none⟩) (2 * n) cp _ W (by rw [swapZ_length, HL.out]) h (areBytes_swap HZ.out _ _) (HC8.out.cap) (by rw [swapZ_length, HL.out]; omega)
  have cD := fun W (h : Bts W (some ⟨g3, 0, none⟩) (L ++ [S / 256, S % 256])) => inet_at (some ⟨g3, 0, none⟩) (2 * n + 2) cp3 _ W (by simp [HL.out]) h (areBytes_two HZ.out (by omega) (by omega)) (HO8.out.cap) (by simp [HL.out]; omega)
  rw [HQ.out] at cC
  rw [HD.out] at cD
  clear HQ HD
  go_wp2_with fail
  refine (cC _ HC8.out.bts).mono ?_
  rintro e W9 ⟨rfl, hb9⟩
  have HO9 : Hid (Owns W9 _ g3 cp3 (L ++ [S / 256, S % 256])) := HO8.out.below hb9
  have HB9 : Hid (Below w.heap.size w W9) := below_two HB8.out hb9
  clear hb9 HO8 HB8 HC8
  go_wp2_with fail
  refine (cD _ HO9.out.bts).mono ?_
  rintro e W10 ⟨rfl, hb10⟩
  have HB10 : Hid (Below w.heap.size w W10) := below_two HB9.out hb10
  clear hb10 HB9 HO9
  go_wp2_with fail
  refine (awake_any _).mono ?_
  rintro e W11 ⟨rfl, hb11⟩
  go_wp2
  go_ret
  exact ⟨rfl, below_two HB10.out hb11⟩
end Go.Proofs.Ytfkcmchpddpmgaa
