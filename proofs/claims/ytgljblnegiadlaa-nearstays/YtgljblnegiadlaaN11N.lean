/- Neighbors merged, where the second list is of one. -/
import Derived.Test.YtgljblnegiadlaaN11M
namespace Go.Proofs.Ytgljblnegiadlaa
open Go.RowKit Go.Sort Go.Lib Go.Shelf
set_option linter.unusedVariables false
set_option linter.unusedSectionVars false
variable [Inhabited NearZ]

set_option maxHeartbeats 4000000 in
set_option maxRecDepth 20000 in
theorem mergeLast_any (w0 : World) (g cap : Nat) (d0 : Array NearZ) (R : RowK nearC 7 w0 g 0 d0) (a m b : Nat) (P X S : List NearZ) (x : NearZ) (W : World) (hn : (P ++ X ++ [x] ++ S).length = d0.size) (ha : a = P.length) (hm : m = P.length + X.length) (hb : b = P.length + X.length + 1) (hX2 : 2 ≤ X.length) (hY : Rise X) (hsz : d0.size ≤ 1000000) (hW : Nw w0 g (P ++ X ++ [x] ++ S) W) :
    Calls Try.prog 36 #[.slice (some ⟨g, 0, none⟩) d0.size cap, .int .i64 a, .int .i64 m, .int .i64 b, .func (.func 26) #[] #[]] W fun e w' => e = .returned (.tuple #[]) ∧ ∃ M, Srt M (X ++ [x]) ∧ Nw w0 g (P ++ M ++ S) w' := by
  have mixed := mixed11
  obtain ⟨L, hL⟩ : ∃ L, P ++ X ++ [x] ++ S = L := ⟨_, rfl⟩
  rw [hL] at hW hn
  have HW : Aside (Nw w0 g L W) := hW
  have HA : Hid (P.length = a) := ha.symm
  have HXL : Hid (a + X.length = m) := by show _ = _; omega
  have HMB : Hid (b = m + 1) := by show _ = _; omega
  have hmb : m < b := by omega
  have ham : a + 2 ≤ m := by omega
  have hbd : b ≤ d0.size := by rw [← hn, ← hL]; simp; omega
  have hxa : L.toArray[m]! = x := by
    rw [← hL, hm]
    simp [List.append_assoc]
  have HD : Hid (∀ t, a ≤ t → t < m → ix L t = ix X (t - a)) := fun t h1 h2 => by
    rw [← hL, show P ++ X ++ [x] ++ S = P ++ (X ++ ([x] ++ S)) by simp, ix_right P _ _ (by omega), ix_left _ _ _ (by omega), ha]
  have HLL : Hid (P ++ X ++ [x] ++ S = L) := hL
  have HYR : Hid (Rise X) := hY
  have hmz : ¬ (m : Int) - (a : Int) = 1 := by omega
  have hmzb : ((m : Int) - (a : Int) == 1) = false := by simpa using hmz
  have hbz : (b : Int) - (m : Int) = 1 := by omega
  clear hW ha hm hb hL hY
  go_enter Try.func36, Try.ntmps36
  go_wp2
  go_loopg [14, 15] X.length (fun gk vi vj wr => ∃ i j : Nat, vi = .int .i64 i ∧ vj = .int .i64 j ∧ a ≤ i ∧ i ≤ j ∧ j ≤ m ∧ j - i ≤ gk ∧ Hid (∀ t, a ≤ t → t < i → ix L t ≤ x.id) ∧ Hid (∀ t, j ≤ t → t < m → x.id < ix L t) ∧ Aside (Nw w0 g L wr))
  case atStart => exact ⟨a, m, rfl, rfl, Nat.le_refl _, by omega, Nat.le_refl _, by have := HXL.out; omega, fun t h1 h2 => absurd h2 (by omega), fun t h1 h2 => absurd h2 (by omega), HW.out⟩
  case round =>
    clear HW
    obtain ⟨i, j, rfl, rfl, hmi, hij, hjb, hgk, H1, H2, HW⟩ := hrel
    by_cases hlt : i < j
    · have hltz : (i : Int) < (j : Int) := by omega
      obtain ⟨h, hh⟩ : ∃ h : Nat, ((i : Int) + (j : Int)) / 2 = (h : Int) := ⟨(i + j) / 2, by omega⟩
      have h1 : i ≤ h := by omega
      have h2 : h < j := by omega
      have h3 : h < d0.size := by omega
      have hz1 : (h : Int) < (d0.size : Int) := by omega
      have hz2 : (m : Int) < (d0.size : Int) := by omega
      obtain ⟨y, hy⟩ : ∃ y, L.toArray[h]! = y := ⟨_, rfl⟩
      have HYI : Hid (ix L h = y.id) := by show _ = _; rw [← ix_arr, hy]
      obtain ⟨oJ, hoJ, c0, c1, c2, c3, c4, c5, c6⟩ := cmp_step HW.out R hn h h3 y hy
      obtain ⟨oP, hoP, k0, k1, k2, k3, k4, k5, k6⟩ := cmp_step HW.out R hn m (by omega) x hxa
      obtain ⟨v, hv⟩ : ∃ v, cmpN x y = v := ⟨_, rfl⟩
      obtain ⟨q, hq⟩ : ∃ q, decide (v < 0) = q := ⟨_, rfl⟩
      have HV : Hid (q = true ↔ x.id < y.id) := by show _ ↔ _; rw [← hq, ← hv, decide_eq_true_iff, cmpN_neg]
      have CC := less_step wr x y v hv
      have HM : Hid (∀ s t, a ≤ s → s ≤ t → t < m → ix L s ≤ ix L t) := fun s t q1 q2 q3 => by
        rw [HD.out s q1 (by omega), HD.out t (by omega) q3]
        exact Rise.ix HYR.out (by omega) (by have := HXL.out; omega)
      clear hv hy
      go_wp2_with fail
      go_quiet_grown (first | (go_at_call 26; exact Calls.grown_of (CC _ _)))
      have HW2 : Aside (Nw w0 g L (grow (wr.drewN nq) osq)) := SWK.grown HW.out nq osq
      clear c0 c1 c2 c3 c4 c5 c6 k0 k1 k2 k3 k4 k5 k6 CC hoJ hoP HW
      generalize grow (wr.drewN nq) osq = wq at *
      clear hq
      cases q with
      | true =>
        have HX : Hid (∀ t, h ≤ t → t < m → x.id < ix L t) := fun t q1 q2 => by
          have e1 := HM.out h t (by omega) q1 q2
          have e2 := HV.out.1 rfl
          have e3 := HYI.out
          omega
        clear HV HYI HM
        go_wp2
        go_roundg (h - i)
        case measure => omega
        case rel => exact ⟨i, h, rfl, rfl, by omega, by omega, by omega, Nat.le_refl _, H1, HX, HW2⟩
      | false =>
        have HX : Hid (∀ t, a ≤ t → t < h + 1 → ix L t ≤ x.id) := fun t q1 q2 => by
          have e1 := HM.out t h q1 (by omega) (by omega)
          have e2 : ¬ x.id < y.id := fun h => absurd (HV.out.2 h) (by simp)
          have e3 := HYI.out
          omega
        clear HV HYI HM
        go_wp2
        go_roundg (j - (h + 1))
        case measure => omega
        case rel => exact ⟨h + 1, j, by go_num, rfl, by omega, by omega, hjb, Nat.le_refl _, HX, H2, HW2⟩
    · have hltz : ¬ (i : Int) < (j : Int) := by omega
      obtain rfl : i = j := by omega
      have HY1 : Hid (∀ t, t < i - a → ix X t ≤ x.id) := fun t q => by
        have := H1.out (a + t) (by omega) (by omega)
        rw [HD.out (a + t) (by omega) (by omega), show a + t - a = t by omega] at this
        exact this
      have HY2 : Hid (∀ t, i - a ≤ t → t < X.length → x.id < ix X t) := fun t q1 q2 => by
        have hl := HXL.out
        have := H2.out (a + t) (by omega) (by omega)
        rw [HD.out (a + t) (by omega) (by omega), show a + t - a = t by omega] at this
        exact this
      have HFIN : Aside (∀ (X1 X2 : List NearZ) (w2 : World), X1 ++ X2 = X → X1.length = i - a → Nw w0 g (P ++ X1 ++ [x] ++ X2 ++ S) w2 → ∃ M, Srt M (X ++ [x]) ∧ Nw w0 g (P ++ M ++ S) w2) := fun X1 X2 w2 e1 e2 e3 => by
        subst e1
        refine ⟨X1 ++ [x] ++ X2, srt_left HYR.out (fun y hy => ?_) (fun y hy => ?_), by simpa [List.append_assoc] using e3⟩
        · obtain ⟨t, q1, e⟩ := List.mem_iff_getElem.1 hy
          have := HY1.out t (by omega)
          rw [ix_left _ _ _ q1, ix_at _ _ q1, e] at this
          exact this
        · obtain ⟨t, q1, e⟩ := List.mem_iff_getElem.1 hy
          have := HY2.out (X1.length + t) (by omega) (by simp; omega)
          rw [ix_right _ _ _ (by omega), show X1.length + t - X1.length = t by omega, ix_at _ _ q1, e] at this
          exact this
      clear H1 H2 HY1 HY2 HD HYR hxa
      go_wp2
      go_loopg [17] (m - i) (fun gk vk wr2 => ∃ (k : Nat) (X1 X2 : List NearZ), vk = .int .i64 k ∧ Hid (X1 ++ X2 = X) ∧ Hid (a + X1.length = k) ∧ i ≤ k ∧ k ≤ m ∧ k - i ≤ gk ∧ Aside (Nw w0 g (P ++ X1 ++ [x] ++ X2 ++ S) wr2))
      case atStart => exact ⟨m, X, [], rfl, by show _ = _; simp, HXL.out, by omega, Nat.le_refl _, by omega, by have := HW.out; rw [← HLL.out] at this; show Nw _ _ _ _; simpa using this⟩
      case round =>
        clear HW
        obtain ⟨k, X1, X2, rfl, HYY, HK, hki, hak, hgk2, HW⟩ := hrel
        by_cases hkl : i < k
        · have hkz : (i : Int) < (k : Int) := by omega
          obtain ⟨X3, y, rfl⟩ : ∃ X3 y, X1 = X3 ++ [y] := by
            rcases List.eq_nil_or_concat X1 with h | ⟨l, y, h⟩
            · have h2 := HK.out
              subst h; simp at h2; omega
            · exact ⟨l, y, by rw [h]; simp⟩
          obtain ⟨p, rfl⟩ : ∃ p, k = p + 1 := ⟨k - 1, by omega⟩
          have hl : (P ++ (X3 ++ [y]) ++ [x] ++ X2 ++ S).length = d0.size := by
            rw [← hn, ← HLL.out, ← HYY.out]; simp; omega
          have hPk : (P ++ X3).length = p := by have h1 := HA.out; have h2 := HK.out; simp at h2 ⊢; omega
          have hxk : (P ++ (X3 ++ [y]) ++ [x] ++ X2 ++ S).toArray[p + 1]! = x := by
            have := at_mid (P ++ X3 ++ [y]) (X2 ++ S) x
            rw [List.length_append, hPk, List.length_singleton] at this; simpa [List.append_assoc] using this
          have hyk : (P ++ (X3 ++ [y]) ++ [x] ++ X2 ++ S).toArray[p]! = y := by
            have := at_mid (P ++ X3) ([x] ++ X2 ++ S) y
            rw [hPk] at this; simpa [List.append_assoc] using this
          have hsw : swp (P ++ (X3 ++ [y]) ++ [x] ++ X2 ++ S).toArray (p + 1) p = (P ++ X3 ++ [x] ++ (y :: X2) ++ S).toArray := by
            have := swp_back (P ++ X3) (X2 ++ S) y x
            rw [hPk] at this; simpa [List.append_assoc] using this
          have hkd : p + 1 < d0.size := by omega
          obtain ⟨oA, oB, w2, hoA, hoB, ⟨c0, c1, c2, c3, c4, c5, c6⟩, ⟨f0, f1, f2, f3, f4, f5, f6⟩, ⟨k0, k1, k2, k3, k4, k5, k6⟩, ⟨g0, g1, g2, g3, g4, g5, g6⟩, ⟨j0, j1, j2, j3, j4, j5, j6⟩, hw2, hS⟩ := swap_step HW.out R hl (p + 1) p hkd (by omega) (by omega) x y hxk hyk hsw
          have HS : Aside (Nw w0 g (P ++ X3 ++ [x] ++ (y :: X2) ++ S) w2) := hS
          clear HW hS hsw hl hPk hxk hyk
          have e0 : ((p : Int) + 1).toNat = p + 1 := by omega
          have p0 : (0 : Int) ≤ (p : Int) + 1 := by omega
          have bz1 : (p : Int) + 1 < (d0.size : Int) := by omega
          have bz2 : (p : Int) < (d0.size : Int) := by omega
          have hkz' : (i : Int) < (p : Int) + 1 := by omega
          have hwp : IntKind.i64.wrap (p : Int) = (p : Int) := by rw [IntKind.wrap_i64]; omega
          go_upto_region 23 with fail
          go_big_region
          clear hw2 j0 j1 j2 j3 j4 j5 j6 c0 c1 c2 c3 c4 c5 c6 f0 f1 f2 f3 f4 f5 f6 k0 k1 k2 k3 k4 k5 k6 g0 g1 g2 g3 g4 g5 g6
          go_wp2
          go_roundg (p - i)
          case measure => omega
          case rel => exact ⟨p, X3, y :: X2, by go_num, by show _ = _; rw [← HYY.out]; simp, by have := HK.out; show _ = _; simp at this; omega, by omega, by omega, Nat.le_refl _, HS⟩
        · have hkz : ¬ (i : Int) < (k : Int) := by omega
          go_wp2
          exact bodyPost_ret (v := .tuple #[]) (by simp [results, Try.results36, go_sem]) rfl ⟨rfl, by simpa [List.append_assoc] using HFIN.out X1 X2 _ HYY.out (by have := HK.out; omega) HW.out⟩
end Go.Proofs.Ytgljblnegiadlaa
