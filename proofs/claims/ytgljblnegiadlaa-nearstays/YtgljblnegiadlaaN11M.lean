/- Neighbors merged, where one of the two lists is of one. -/
import Derived.Test.YtgljblnegiadlaaN11R
namespace Go.Proofs.Ytgljblnegiadlaa
open Go.RowKit Go.Sort Go.Lib Go.Shelf
set_option linter.unusedVariables false
set_option linter.unusedSectionVars false
variable [Inhabited NearZ]

theorem ix_arr (L : List NearZ) (t : Nat) : (L.toArray[t]!).id = ix L t := by unfold ix; simp
set_option maxHeartbeats 4000000 in
set_option maxRecDepth 20000 in
theorem mergeOne_any (w0 : World) (g cap : Nat) (d0 : Array NearZ) (R : RowK nearC 7 w0 g 0 d0) (a m b : Nat) (P Y S : List NearZ) (x : NearZ) (W : World) (hn : (P ++ [x] ++ Y ++ S).length = d0.size) (ha : a = P.length) (hm : m = P.length + 1) (hb : b = P.length + 1 + Y.length) (hY : Rise Y) (hsz : d0.size ≤ 1000000) (hW : Nw w0 g (P ++ [x] ++ Y ++ S) W) :
    Calls Try.prog 36 #[.slice (some ⟨g, 0, none⟩) d0.size cap, .int .i64 a, .int .i64 m, .int .i64 b, .func (.func 26) #[] #[]] W fun e w' => e = .returned (.tuple #[]) ∧ ∃ M, Srt M ([x] ++ Y) ∧ Nw w0 g (P ++ M ++ S) w' := by
  have mixed := mixed11
  obtain ⟨L, hL⟩ : ∃ L, P ++ [x] ++ Y ++ S = L := ⟨_, rfl⟩
  rw [hL] at hW hn
  have HW : Aside (Nw w0 g L W) := hW
  have HA : Hid (P.length = a) := ha.symm
  have HYL : Hid (m + Y.length = b) := by show _ = _; omega
  have HMA : Hid (m = a + 1) := by show _ = _; omega
  have hma : a < m := by omega
  have hmb : m ≤ b := by omega
  have hbd : b ≤ d0.size := by rw [← hn, ← hL]; simp; omega
  have hxa : L.toArray[a]! = x := by
    rw [← hL, ha]
    simp [List.append_assoc]
  have HD : Hid (∀ t, m ≤ t → t < b → ix L t = ix Y (t - m)) := fun t h1 h2 => by
    rw [← hL, List.append_assoc, ix_right (P ++ [x]) _ _ (by simp; omega), ix_left _ _ _ (by simp; omega)]
    simp [hm]
  have HLL : Hid (P ++ [x] ++ Y ++ S = L) := hL
  have HYR : Hid (Rise Y) := hY
  have hmz : (m : Int) - (a : Int) = 1 := by omega
  clear hW ha hm hb hL hY
  go_enter Try.func36, Try.ntmps36
  go_wp2
  go_loopg [10, 11] Y.length (fun gk vi vj wr => ∃ i j : Nat, vi = .int .i64 i ∧ vj = .int .i64 j ∧ m ≤ i ∧ i ≤ j ∧ j ≤ b ∧ j - i ≤ gk ∧ Hid (∀ t, m ≤ t → t < i → ix L t < x.id) ∧ Hid (∀ t, j ≤ t → t < b → x.id ≤ ix L t) ∧ Aside (Nw w0 g L wr))
  case atStart => exact ⟨m, b, rfl, rfl, Nat.le_refl _, hmb, Nat.le_refl _, by have := HYL.out; omega, fun t h1 h2 => absurd h2 (by omega), fun t h1 h2 => absurd h2 (by omega), HW.out⟩
  case round =>
    clear HW
    obtain ⟨i, j, rfl, rfl, hmi, hij, hjb, hgk, H1, H2, HW⟩ := hrel
    by_cases hlt : i < j
    · have hltz : (i : Int) < (j : Int) := by omega
      obtain ⟨h, hh⟩ : ∃ h : Nat, ((i : Int) + (j : Int)) / 2 = (h : Int) := ⟨(i + j) / 2, by omega⟩
      have h1 : i ≤ h := by omega
      have h2 : h < j := by omega
      have h3 : h < d0.size := by omega
      have hz1 : (h : Int) < (d0.size : Int) := by omega
      have hz2 : (a : Int) < (d0.size : Int) := by omega
      obtain ⟨y, hy⟩ : ∃ y, L.toArray[h]! = y := ⟨_, rfl⟩
      have HYI : Hid (ix L h = y.id) := by show _ = _; rw [← ix_arr, hy]
      obtain ⟨oJ, hoJ, c0, c1, c2, c3, c4, c5, c6⟩ := cmp_step HW.out R hn h h3 y hy
      obtain ⟨oP, hoP, k0, k1, k2, k3, k4, k5, k6⟩ := cmp_step HW.out R hn a (by omega) x hxa
      obtain ⟨v, hv⟩ : ∃ v, cmpN y x = v := ⟨_, rfl⟩
      have HV : Hid (v < 0 ↔ y.id < x.id) := by show _ ↔ _; rw [← hv, cmpN_neg]
      have CC := less_step wr y x v hv
      have HM : Hid (∀ s t, m ≤ s → s ≤ t → t < b → ix L s ≤ ix L t) := fun s t q1 q2 q3 => by
        rw [HD.out s q1 (by omega), HD.out t (by omega) q3]
        exact Rise.ix HYR.out (by omega) (by have := HYL.out; omega)
      clear hv hy
      go_wp2_with fail
      go_quiet_grown (first | (go_at_call 26; exact Calls.grown_of (CC _ _)))
      have HW2 : Aside (Nw w0 g L (grow (wr.drewN nq) osq)) := SWK.grown HW.out nq osq
      clear c0 c1 c2 c3 c4 c5 c6 k0 k1 k2 k3 k4 k5 k6 CC hoJ hoP HW
      generalize grow (wr.drewN nq) osq = wq at *
      by_cases hneg : v < 0
      · have HX : Hid (∀ t, m ≤ t → t < h + 1 → ix L t < x.id) := fun t q1 q2 => by
          have e1 := HM.out t h q1 (by omega) (by omega)
          have e2 := HV.out.1 hneg
          have e3 := HYI.out
          omega
        clear HV HYI HM
        go_wp2
        go_roundg (j - (h + 1))
        case measure => omega
        case rel => exact ⟨h + 1, j, by go_num, rfl, by omega, by omega, hjb, Nat.le_refl _, HX, H2, HW2⟩
      · have HX : Hid (∀ t, h ≤ t → t < b → x.id ≤ ix L t) := fun t q1 q2 => by
          have e1 := HM.out h t (by omega) q1 q2
          have e2 : ¬ y.id < x.id := fun h => hneg (HV.out.2 h)
          have e3 := HYI.out
          omega
        clear HV HYI HM
        go_wp2
        go_roundg (h - i)
        case measure => omega
        case rel => exact ⟨i, h, rfl, rfl, by omega, by omega, by omega, Nat.le_refl _, H1, HX, HW2⟩
    · have hltz : ¬ (i : Int) < (j : Int) := by omega
      obtain rfl : i = j := by omega
      have HY1 : Hid (∀ t, t < i - m → ix Y t < x.id) := fun t q => by
        have := H1.out (m + t) (by omega) (by omega)
        rw [HD.out (m + t) (by omega) (by omega), show m + t - m = t by omega] at this
        exact this
      have HY2 : Hid (∀ t, i - m ≤ t → t < Y.length → x.id ≤ ix Y t) := fun t q1 q2 => by
        have hl := HYL.out
        have := H2.out (m + t) (by omega) (by omega)
        rw [HD.out (m + t) (by omega) (by omega), show m + t - m = t by omega] at this
        exact this
      have HFIN : Aside (∀ (Y1 Y2 : List NearZ) (w2 : World), Y1 ++ Y2 = Y → Y1.length = i - m → Nw w0 g (P ++ Y1 ++ [x] ++ Y2 ++ S) w2 → ∃ M, Srt M ([x] ++ Y) ∧ Nw w0 g (P ++ M ++ S) w2) := fun Y1 Y2 w2 e1 e2 e3 => by
        subst e1
        refine ⟨Y1 ++ [x] ++ Y2, srt_right HYR.out (fun y hy => ?_) (fun y hy => ?_), by simpa [List.append_assoc] using e3⟩
        · obtain ⟨t, q1, e⟩ := List.mem_iff_getElem.1 hy
          have := HY1.out t (by omega)
          rw [ix_left _ _ _ q1, ix_at _ _ q1, e] at this
          exact this
        · obtain ⟨t, q1, e⟩ := List.mem_iff_getElem.1 hy
          have := HY2.out (Y1.length + t) (by omega) (by simp; omega)
          rw [ix_right _ _ _ (by omega), show Y1.length + t - Y1.length = t by omega, ix_at _ _ q1, e] at this
          exact this
      clear H1 H2 HY1 HY2 HD HYR hxa
      go_wp2
      go_loopg [13] (i - m) (fun gk vk wr2 => ∃ (k : Nat) (Y1 Y2 : List NearZ), vk = .int .i64 k ∧ Hid (Y1 ++ Y2 = Y) ∧ Hid (a + Y1.length = k) ∧ k ≤ i - 1 ∧ a ≤ k ∧ i - 1 - k ≤ gk ∧ Aside (Nw w0 g (P ++ Y1 ++ [x] ++ Y2 ++ S) wr2))
      case atStart => exact ⟨a, [], Y, rfl, rfl, rfl, by omega, Nat.le_refl _, by have := HMA.out; omega, by have := HW.out; rw [← HLL.out] at this; show Nw _ _ _ _; simpa using this⟩
      case round =>
        clear HW
        obtain ⟨k, Y1, Y2, rfl, HYY, HK, hki, hak, hgk2, HW⟩ := hrel
        by_cases hkl : k < i - 1
        · have hkz : (k : Int) < (i : Int) - 1 := by omega
          obtain ⟨y, Y3, rfl⟩ : ∃ y Y3, Y2 = y :: Y3 := by
            cases Y2 with
            | nil =>
              have h1 := HYY.out; have h2 := HK.out; have h3 := HYL.out; have h4 := HMA.out
              rw [List.append_nil] at h1; subst h1; omega
            | cons y Y3 => exact ⟨y, Y3, rfl⟩
          have hl : (P ++ Y1 ++ [x] ++ (y :: Y3) ++ S).length = d0.size := by
            rw [← hn, ← HLL.out, ← HYY.out]; simp; omega
          have hPk : (P ++ Y1).length = k := by have h1 := HA.out; have h2 := HK.out; simp; omega
          have hxk : (P ++ Y1 ++ [x] ++ (y :: Y3) ++ S).toArray[k]! = x := by
            have := at_mid (P ++ Y1) ((y :: Y3) ++ S) x
            rw [hPk] at this; simpa [List.append_assoc] using this
          have hyk : (P ++ Y1 ++ [x] ++ (y :: Y3) ++ S).toArray[k + 1]! = y := by
            have := at_mid (P ++ Y1 ++ [x]) (Y3 ++ S) y
            rw [List.length_append, hPk, List.length_singleton] at this; simpa [List.append_assoc] using this
          have hsw : swp (P ++ Y1 ++ [x] ++ (y :: Y3) ++ S).toArray k (k + 1) = (P ++ (Y1 ++ [y]) ++ [x] ++ Y3 ++ S).toArray := by
            have := swp_next (P ++ Y1) (Y3 ++ S) x y
            rw [hPk] at this; simpa [List.append_assoc] using this
          have hkd : k + 1 < d0.size := by omega
          obtain ⟨oA, oB, w2, hoA, hoB, ⟨c0, c1, c2, c3, c4, c5, c6⟩, ⟨f0, f1, f2, f3, f4, f5, f6⟩, ⟨k0, k1, k2, k3, k4, k5, k6⟩, ⟨g0, g1, g2, g3, g4, g5, g6⟩, ⟨j0, j1, j2, j3, j4, j5, j6⟩, hw2, hS⟩ := swap_step HW.out R hl k (k + 1) (by omega) hkd (by omega) x y hxk hyk hsw
          have HS : Aside (Nw w0 g (P ++ (Y1 ++ [y]) ++ [x] ++ Y3 ++ S) w2) := hS
          clear HW hS hsw hl hPk hxk hyk
          have e0 : ((k : Int) + 1).toNat = k + 1 := by omega
          have p0 : (0 : Int) ≤ (k : Int) + 1 := by omega
          have bz1 : (k : Int) + 1 < (d0.size : Int) := by omega
          have bz2 : (k : Int) < (d0.size : Int) := by omega
          have hwp : IntKind.i64.wrap ((k : Int) + 1) = (k : Int) + 1 := by rw [IntKind.wrap_i64]; omega
          go_upto_region 11 with fail
          go_big_region
          clear hw2 j0 j1 j2 j3 j4 j5 j6 c0 c1 c2 c3 c4 c5 c6 f0 f1 f2 f3 f4 f5 f6 k0 k1 k2 k3 k4 k5 k6 g0 g1 g2 g3 g4 g5 g6
          go_wp2
          go_roundg (i - 1 - (k + 1))
          case measure => omega
          case rel => exact ⟨k + 1, Y1 ++ [y], Y3, by go_num, by show _ = _; rw [← HYY.out]; simp, by show _ = _; rw [← HK.out]; simp; omega, by omega, by omega, Nat.le_refl _, HS⟩
        · have hkz : ¬ (k : Int) < (i : Int) - 1 := by omega
          go_wp2
          exact bodyPost_ret (v := .tuple #[]) (by simp [results, Try.results36, go_sem]) rfl ⟨rfl, by simpa [List.append_assoc] using HFIN.out Y1 Y2 _ HYY.out (by have := HK.out; have := HMA.out; omega) HW.out⟩
end Go.Proofs.Ytgljblnegiadlaa
