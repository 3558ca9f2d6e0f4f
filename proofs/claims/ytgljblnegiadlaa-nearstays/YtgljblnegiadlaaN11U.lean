/- Neighbors merged. -/
import Derived.Test.YtgljblnegiadlaaN11N
namespace Go.Proofs.Ytgljblnegiadlaa
open Go.RowKit Go.Sort Go.Lib Go.Shelf
set_option linter.unusedVariables false
set_option linter.unusedSectionVars false
variable [Inhabited NearZ]

def MergeIs (w0 : World) (g cap : Nat) (d0 : Array NearZ) (a m b : Nat) (P X Y S : List NearZ) (W : World) : Prop :=
  Calls Try.prog 36 #[.slice (some ⟨g, 0, none⟩) d0.size cap, .int .i64 a, .int .i64 m, .int .i64 b, .func (.func 26) #[] #[]] W fun e w' => e = .returned (.tuple #[]) ∧ ∃ M, Srt M (X ++ Y) ∧ Nw w0 g (P ++ M ++ S) w'
/-- Where two lists that rise are parted for the merging. -/
theorem part_facts {a m b mid n st s0 r0 : Nat} {P X Y S L : List NearZ} (hL : L = P ++ X ++ Y ++ S) (ha : a = P.length) (hm : m = a + X.length) (hb : b = m + Y.length) (hX : Rise X) (hY : Rise Y)
    (hmid1 : a < mid) (hmid2 : mid < b) (hn : n = mid + m) (h0 : a ≤ s0) (h1 : s0 ≤ r0) (h2 : r0 ≤ m) (h3 : r0 ≤ mid) (h4 : n - s0 ≤ b) (h5 : s0 = a ∨ n - s0 = b) (h6 : r0 = m ∨ n - r0 = m) (hs0 : s0 ≤ st) (hs1 : st ≤ r0)
    (hlo : ∀ t, s0 ≤ t → t < st → ix L t ≤ ix L (n - 1 - t)) (hhi : ∀ t, st ≤ t → t < r0 → ix L (n - 1 - t) < ix L t) :
    ∃ X1 X2 Y1 Y2, X1 ++ X2 = X ∧ Y1 ++ Y2 = Y ∧ a + X1.length = st ∧ m + Y1.length = n - st ∧ a + X1.length + Y1.length = mid ∧ (∀ x ∈ X2, ∀ y ∈ Y1, y.id < x.id) ∧ (∀ x ∈ X1, ∀ y ∈ Y2, x.id ≤ y.id) := by
  have hx : ∀ t, a ≤ t → t < m → ix L t = ix X (t - a) := fun t q1 q2 => by
    rw [hL, show P ++ X ++ Y ++ S = P ++ (X ++ (Y ++ S)) by simp, ix_right P _ _ (by omega), ix_left _ _ _ (by omega), ha]
  have hy : ∀ t, m ≤ t → t < b → ix L t = ix Y (t - m) := fun t q1 q2 => by
    rw [hL, show P ++ X ++ Y ++ S = (P ++ X) ++ (Y ++ S) by simp, ix_right (P ++ X) _ _ (by simp; omega), ix_left _ _ _ (by simp; omega)]
    congr 1; simp; omega
  refine ⟨X.take (st - a), X.drop (st - a), Y.take (n - st - m), Y.drop (n - st - m), List.take_append_drop _ _, List.take_append_drop _ _, by rw [List.length_take]; omega, by rw [List.length_take]; omega, by rw [List.length_take, List.length_take]; omega, ?_, ?_⟩
  · intro x hx' y hy'
    obtain ⟨t, t1, t2, ex⟩ := mem_drop_ix hx'
    obtain ⟨u, u1, u2, ey⟩ := mem_take_ix hy'
    rw [ex, ey]
    have hst : st < r0 := by
      rcases Nat.lt_or_ge st r0 with h | h
      · exact h
      · have : st = r0 := by omega
        omega
    have k := hhi st (Nat.le_refl _) hst
    rw [hx st (by omega) (by omega), hy (n - 1 - st) (by omega) (by omega)] at k
    have k1 := Rise.ix hX (s := st - a) (t := t) t1 t2
    have k2 := Rise.ix hY (s := u) (t := n - 1 - st - m) (by omega) (by omega)
    omega
  · intro x hx' y hy'
    obtain ⟨t, t1, t2, ex⟩ := mem_take_ix hx'
    obtain ⟨u, u1, u2, ey⟩ := mem_drop_ix hy'
    rw [ex, ey]
    have hst : s0 < st := by
      rcases Nat.lt_or_ge s0 st with h | h
      · exact h
      · have : st = s0 := by omega
        omega
    have k := hlo (st - 1) (by omega) (by omega)
    rw [hx (st - 1) (by omega) (by omega), hy (n - 1 - (st - 1)) (by omega) (by omega)] at k
    have k1 := Rise.ix hX (s := t) (t := st - 1 - a) (by omega) (by omega)
    have k2 := Rise.ix hY (s := n - 1 - (st - 1) - m) (t := u) (by omega) u2
    omega
/-- The search goes on on one side. -/
theorem part_mono {a m b mid n s0 r0 : Nat} {P X Y S L : List NearZ} (hL : L = P ++ X ++ Y ++ S) (ha : a = P.length) (hm : m = a + X.length) (hb : b = m + Y.length) (hX : Rise X) (hY : Rise Y)
    (hn : n = mid + m) (h0 : a ≤ s0) (h2 : r0 ≤ m) (h3 : r0 ≤ mid) (h4 : n - s0 ≤ b) (hmid1 : a < mid) {s t : Nat} (hs : s0 ≤ s) (hst : s ≤ t) (ht : t < r0) : ix L s ≤ ix L t ∧ ix L (n - 1 - t) ≤ ix L (n - 1 - s) := by
  have hx : ∀ t, a ≤ t → t < m → ix L t = ix X (t - a) := fun t q1 q2 => by
    rw [hL, show P ++ X ++ Y ++ S = P ++ (X ++ (Y ++ S)) by simp, ix_right P _ _ (by omega), ix_left _ _ _ (by omega), ha]
  have hy : ∀ t, m ≤ t → t < b → ix L t = ix Y (t - m) := fun t q1 q2 => by
    rw [hL, show P ++ X ++ Y ++ S = (P ++ X) ++ (Y ++ S) by simp, ix_right (P ++ X) _ _ (by simp; omega), ix_left _ _ _ (by simp; omega)]
    congr 1; simp; omega
  rw [hx s (by omega) (by omega), hx t (by omega) (by omega), hy (n - 1 - t) (by omega) (by omega), hy (n - 1 - s) (by omega) (by omega)]
  exact ⟨Rise.ix hX (by omega) (by omega), Rise.ix hY (by omega) (by omega)⟩
set_option maxHeartbeats 8000000 in
set_option maxRecDepth 20000 in
theorem mergeMore_any (w0 : World) (g cap : Nat) (d0 : Array NearZ) (R : RowK nearC 7 w0 g 0 d0) (f : Nat)
    (ih : ∀ (a m b : Nat) (P X Y S : List NearZ) (W : World), X.length + Y.length ≤ f → (P ++ X ++ Y ++ S).length = d0.size → a = P.length → m = a + X.length → b = m + Y.length → 0 < X.length → 0 < Y.length → Rise X → Rise Y → Nw w0 g (P ++ X ++ Y ++ S) W → MergeIs w0 g cap d0 a m b P X Y S W)
    (a m b : Nat) (P X Y S : List NearZ) (W : World) (hf : X.length + Y.length ≤ f + 1) (hn : (P ++ X ++ Y ++ S).length = d0.size) (ha : a = P.length) (hm : m = a + X.length) (hb : b = m + Y.length) (hX2 : 2 ≤ X.length) (hY2 : 2 ≤ Y.length) (hX : Rise X) (hY : Rise Y) (hsz : d0.size ≤ 1000000) (hW : Nw w0 g (P ++ X ++ Y ++ S) W) : MergeIs w0 g cap d0 a m b P X Y S W := by
  unfold MergeIs at *
  have mixed := mixed11
  obtain ⟨L, hL⟩ : ∃ L, L = P ++ X ++ Y ++ S := ⟨_, rfl⟩
  rw [← hL] at hW hn
  have HW : Aside (Nw w0 g L W) := hW
  have IH : Aside _ := ih
  have HLL : Hid (L = P ++ X ++ Y ++ S) := hL
  have HA : Hid (a = P.length) := ha
  have HM : Hid (m = a + X.length) := hm
  have HB : Hid (b = m + Y.length) := hb
  have HX : Hid (Rise X) := hX
  have HY : Hid (Rise Y) := hY
  have HF : Hid (X.length + Y.length ≤ f + 1) := hf
  have ham : a + 2 ≤ m := by omega
  have hmb : m + 2 ≤ b := by omega
  have hbd : b ≤ d0.size := by rw [← hn, hL]; simp; omega
  have hmz : ¬ (m : Int) - (a : Int) = 1 := by omega
  have hmzb : ((m : Int) - (a : Int) == 1) = false := by simpa using hmz
  have hbz : ¬ (b : Int) - (m : Int) = 1 := by omega
  have hbzb : ((b : Int) - (m : Int) == 1) = false := by simpa using hbz
  obtain ⟨mid, hmid⟩ : ∃ mid : Nat, ((a : Int) + (b : Int)) / 2 = (mid : Int) := ⟨(a + b) / 2, by omega⟩
  obtain ⟨n, hnz⟩ : ∃ n : Nat, (mid : Int) + (m : Int) = (n : Int) := ⟨mid + m, by omega⟩
  obtain ⟨p, hpz⟩ : ∃ p : Nat, (n : Int) - 1 = (p : Int) := ⟨n - 1, by omega⟩
  have hmid1 : a < mid := by omega
  have hmid2 : mid < b := by omega
  have HN : Hid (n = mid + m) := by show _ = _; omega
  have HMF : Hid (mid - a ≤ f ∧ b - mid ≤ f) := ⟨by omega, by omega⟩
  have HPN : Hid (p = n - 1) := by show _ = _; omega
  have hnp : n = p + 1 := by omega
  have HNP : Hid (n = p + 1) := hnp
  have hn2 : n ≤ 2000000 := by omega
  have hnlo : mid ≤ n ∧ m ≤ n := by omega
  clear hW ih hL ha hm hb hX hY hf hnp hX2 hY2
  go_enter Try.func36, Try.ntmps36
  go_upto_if 140 with fail
  go_cut [20, 21] from 25 (fun s r wx => ∃ s0 r0 : Nat, s = .int .i64 s0 ∧ r = .int .i64 r0 ∧ wx = W ∧ a ≤ s0 ∧ s0 ≤ r0 ∧ r0 ≤ m ∧ r0 ≤ mid ∧ n ≤ b + s0 ∧ Hid (s0 = a ∨ n - s0 = b) ∧ Hid (r0 = m ∨ n - r0 = m))
  case first =>
    by_cases hgt : mid < m
    · have hgz : (mid : Int) < (m : Int) := by omega
      obtain ⟨s0, hs0⟩ : ∃ s0 : Nat, (n : Int) - (b : Int) = (s0 : Int) := ⟨n - b, by have := HN.out; omega⟩
      have hn' := HN.out
      have hfin : a ≤ s0 ∧ s0 ≤ mid ∧ mid ≤ m ∧ n ≤ b + s0 ∧ n - s0 = b ∧ n - mid = m := by omega
      have HFN : Hid _ := hfin
      clear hn' hfin
      go_wp2_with fail
      go_meet
      exact ⟨s0, mid, rfl, rfl, rfl, HFN.out.1, HFN.out.2.1, HFN.out.2.2.1, Nat.le_refl _, HFN.out.2.2.2.1, .inr HFN.out.2.2.2.2.1, .inr HFN.out.2.2.2.2.2⟩
    · have hgz : ¬ (mid : Int) < (m : Int) := by omega
      have HFN : Hid (m ≤ mid ∧ n ≤ b + a) := ⟨by omega, by have := HN.out; omega⟩
      go_wp2_with fail
      go_meet
      exact ⟨a, m, rfl, rfl, rfl, Nat.le_refl _, by omega, Nat.le_refl _, HFN.out.1, HFN.out.2, .inl rfl, .inl rfl⟩
  case rest =>
    obtain ⟨s0, r0, rfl, rfl, rfl, h0, h1, h2, h3, h4, H5, H6⟩ := hcut
    have HMO : Hid (∀ s t, s0 ≤ s → s ≤ t → t < r0 → ix L s ≤ ix L t ∧ ix L (n - 1 - t) ≤ ix L (n - 1 - s)) := fun s t q1 q2 q3 =>
      part_mono HLL.out HA.out HM.out HB.out HX.out HY.out HN.out h0 h2 h3 (by omega) hmid1 q1 q2 q3
    have HPT : Aside (∀ st, s0 ≤ st → st ≤ r0 → (∀ t, s0 ≤ t → t < st → ix L t ≤ ix L (n - 1 - t)) → (∀ t, st ≤ t → t < r0 → ix L (n - 1 - t) < ix L t) → ∃ X1 X2 Y1 Y2, X1 ++ X2 = X ∧ Y1 ++ Y2 = Y ∧ a + X1.length = st ∧ m + Y1.length = n - st ∧ a + X1.length + Y1.length = mid ∧ (∀ x ∈ X2, ∀ y ∈ Y1, y.id < x.id) ∧ (∀ x ∈ X1, ∀ y ∈ Y2, x.id ≤ y.id)) := fun st q1 q2 q3 q4 =>
      part_facts HLL.out HA.out HM.out HB.out HX.out HY.out hmid1 hmid2 HN.out h0 h1 h2 h3 (by omega) H5.out H6.out q1 q2 q3 q4
    clear H5 H6
    go_wp2_with fail
    go_loopg [20, 21] (r0 - s0) (fun gk vi vj wr => ∃ i j : Nat, vi = .int .i64 i ∧ vj = .int .i64 j ∧ s0 ≤ i ∧ i ≤ j ∧ j ≤ r0 ∧ j - i ≤ gk ∧ Hid (∀ t, s0 ≤ t → t < i → ix L t ≤ ix L (n - 1 - t)) ∧ Hid (∀ t, j ≤ t → t < r0 → ix L (n - 1 - t) < ix L t) ∧ Aside (Nw w0 g L wr))
    case atStart => exact ⟨s0, r0, rfl, rfl, Nat.le_refl _, h1, Nat.le_refl _, Nat.le_refl _, fun t q1 q2 => absurd q2 (by omega), fun t q1 q2 => absurd q2 (by omega), HW.out⟩
    case round =>
      clear HW
      obtain ⟨i, j, rfl, rfl, hsi, hij, hjr, hgk, H1, H2, HW⟩ := hrel
      by_cases hlt : i < j
      · have hltz : (i : Int) < (j : Int) := by omega
        obtain ⟨c, hc⟩ : ∃ c : Nat, ((i : Int) + (j : Int)) / 2 = (c : Int) := ⟨(i + j) / 2, by omega⟩
        have hc1 : i ≤ c := by omega
        have hc2 : c < j := by omega
        have hpc : c ≤ p ∧ p - c < b := by have := HPN.out; omega
        obtain ⟨q, hq⟩ : ∃ q : Nat, (p : Int) - (c : Int) = (q : Int) := ⟨p - c, by omega⟩
        have hqn : n - 1 - c = q := by have := HPN.out; omega
        have HQN : Hid (n - 1 - c = q) := hqn
        have hqd : q < d0.size := by omega
        have hcd : c < d0.size := by omega
        have hz1 : (c : Int) < (d0.size : Int) := by omega
        have hz2 : (q : Int) < (d0.size : Int) := by omega
        have hqw : IntKind.i64.wrap ((p : Int) - (c : Int)) = (q : Int) := by rw [IntKind.wrap_i64]; omega
        have hqw2 : IntKind.i64.wrap (q : Int) = (q : Int) := by rw [IntKind.wrap_i64]; omega
        obtain ⟨x, hx⟩ : ∃ x, L.toArray[c]! = x := ⟨_, rfl⟩
        obtain ⟨y, hy⟩ : ∃ y, L.toArray[q]! = y := ⟨_, rfl⟩
        have HXI : Hid (ix L c = x.id) := by show _ = _; rw [← ix_arr, hx]
        have HYI : Hid (ix L q = y.id) := by show _ = _; rw [← ix_arr, hy]
        obtain ⟨oJ, hoJ, c0, c1, c2, c3, c4, c5, c6⟩ := cmp_step HW.out R hn c hcd x hx
        obtain ⟨oP, hoP, k0, k1, k2, k3, k4, k5, k6⟩ := cmp_step HW.out R hn q hqd y hy
        obtain ⟨v, hv⟩ : ∃ v, cmpN y x = v := ⟨_, rfl⟩
        obtain ⟨z, hz⟩ : ∃ z, decide (v < 0) = z := ⟨_, rfl⟩
        have HV : Hid (z = true ↔ y.id < x.id) := by show _ ↔ _; rw [← hz, ← hv, decide_eq_true_iff, cmpN_neg]
        have CC := less_step wr y x v hv
        clear hv hx hy hqn hpc
        go_wp2_with fail
        go_quiet_grown (first | (go_at_call 26; exact Calls.grown_of (CC _ _)))
        have HW2 : Aside (Nw w0 g L (grow (wr.drewN nq) osq)) := SWK.grown HW.out nq osq
        clear c0 c1 c2 c3 c4 c5 c6 k0 k1 k2 k3 k4 k5 k6 CC hoJ hoP HW hz
        generalize grow (wr.drewN nq) osq = wq at *
        cases z with
        | true =>
          have HX2 : Hid (∀ t, c ≤ t → t < r0 → ix L (n - 1 - t) < ix L t) := fun t q1 q2 => by
            have e1 := HMO.out c t (by omega) q1 q2
            have e2 := HV.out.1 rfl
            rw [HQN.out] at e1
            have e3 := HXI.out
            have e4 := HYI.out
            omega
          clear HV HXI HYI HQN
          go_wp2
          go_roundg (c - i)
          case measure => omega
          case rel => exact ⟨i, c, rfl, rfl, hsi, hc1, by omega, Nat.le_refl _, H1, HX2, HW2⟩
        | false =>
          have HX2 : Hid (∀ t, s0 ≤ t → t < c + 1 → ix L t ≤ ix L (n - 1 - t)) := fun t q1 q2 => by
            have e1 := HMO.out t c q1 (by omega) (by omega)
            have e2 : ¬ y.id < x.id := fun h => absurd (HV.out.2 h) (by simp)
            rw [HQN.out] at e1
            have e3 := HXI.out
            have e4 := HYI.out
            omega
          clear HV HXI HYI HQN
          go_wp2
          go_roundg (j - (c + 1))
          case measure => omega
          case rel => exact ⟨c + 1, j, by go_num, rfl, by omega, by omega, hjr, Nat.le_refl _, HX2, H2, HW2⟩
      · have hltz : ¬ (i : Int) < (j : Int) := by omega
        obtain rfl : i = j := by omega
        obtain ⟨X1, X2, Y1, Y2, e1, e2, l1, l2, l3, m1, m2⟩ := HPT.out i hsi hjr H1.out H2.out
        have HE : Hid (X1 ++ X2 = X ∧ Y1 ++ Y2 = Y) := ⟨e1, e2⟩
        have HC : Hid ((∀ x ∈ X2, ∀ y ∈ Y1, y.id < x.id) ∧ (∀ x ∈ X1, ∀ y ∈ Y2, x.id ≤ y.id)) := ⟨m1, m2⟩
        obtain ⟨en, hen⟩ : ∃ en : Nat, (n : Int) - (i : Int) = (en : Int) := ⟨n - i, by omega⟩
        have HLN : Hid (a + X1.length = i ∧ m + Y1.length = en ∧ a + X1.length + Y1.length = mid ∧ X1.length + X2.length = X.length ∧ Y1.length + Y2.length = Y.length) := ⟨l1, by omega, l3, by rw [← e1]; simp, by rw [← e2]; simp⟩
        have hie : i ≤ m ∧ m ≤ en ∧ a ≤ i ∧ en ≤ b ∧ i ≤ mid ∧ mid ≤ en := by
          have g1 := HLN.out; have g2 := HM.out; have g3 := HB.out; have g4 := HN.out
          omega
        obtain ⟨q1, q2, q3, q4, q5, q6⟩ := hie
        clear H1 H2 HPT HMO e1 e2 l1 l2 l3 m1 m2
        have HW1 : Aside (Nw w0 g (P ++ X1 ++ X2 ++ Y1 ++ (Y2 ++ S)) wr) := by
          show Nw _ _ _ _
          have := HW.out
          rw [HLL.out, ← HE.out.1, ← HE.out.2] at this
          simpa [List.append_assoc] using this
        clear HW
        go_upto_region 39 with fail
        obtain ⟨z1, hz1⟩ : ∃ z1 : Bool, z1 = (decide (i < m) && decide (m < en)) := ⟨_, rfl⟩
        have Hz1 : Hid (z1 = (decide (i < m) && decide (m < en))) := hz1
        clear hz1
        go_cut [185] from 178 (fun v wx => v = .bool z1 ∧ wx = wr)
        case first =>
          by_cases u1 : (i : Int) < (m : Int)
          · by_cases u2 : (m : Int) < (en : Int)
            · have hz' : Hid (z1 = true) := by show _ = _; rw [Hz1.out]; simp; omega
              go_wp2_with fail
              go_meet
              exact ⟨by rw [hz'.out], rfl⟩
            · have hz' : Hid (z1 = false) := by show _ = _; rw [Hz1.out]; simp; omega
              go_wp2_with fail
              go_meet
              exact ⟨by rw [hz'.out], rfl⟩
          · have hz' : Hid (z1 = false) := by show _ = _; rw [Hz1.out]; simp; omega
            go_wp2_with fail
            go_meet
            exact ⟨by rw [hz'.out], rfl⟩
        obtain ⟨hv, hw⟩ := hcut
        subst hv hw
        go_upto_if 185 with fail
        go_cut [24] from 178 (fun v wx => v = .int .i64 en ∧ Aside (Nw w0 g (P ++ X1 ++ Y1 ++ (X2 ++ Y2) ++ S) wx))
        case first =>
          cases z1 with
          | true =>
            have hb : i < m ∧ m < en := by simpa using Hz1.out
            have CR := rotate_any w0 g cap d0 R (.func (.func 26) #[] #[]) i m en (P ++ X1) X2 Y1 (Y2 ++ S) wc (by have g1 := HLN.out; have g2 := hn; rw [HLL.out] at g2; simp at g2 ⊢; omega) (by have g1 := HLN.out; have g2 := HA.out; simp; omega) (by have g1 := HLN.out; have g2 := HA.out; have g3 := HM.out; simp; omega) (by have g1 := HLN.out; have g2 := HA.out; have g3 := HM.out; simp; omega) (by have g1 := HLN.out; have g3 := HM.out; omega) (by have g1 := HLN.out; omega) hsz HW1.out
            clear hb
            go_wp2_with fail
            refine CR.mono ?_
            rintro e w2 ⟨rfl, hw2⟩
            have HW2 : Aside (Nw w0 g (P ++ X1 ++ Y1 ++ X2 ++ (Y2 ++ S)) w2) := hw2
            clear hw2 CR HW1
            go_wp2_with fail
            go_meet
            exact ⟨rfl, by show Nw _ _ _ _; have := HW2.out; simpa [List.append_assoc] using this⟩
          | false =>
            have hb : X2 = [] ∨ Y1 = [] := by
              have g0 : ¬ (i < m ∧ m < en) := by simpa using Hz1.out
              have g1 := HLN.out; have g3 := HM.out
              rcases Nat.eq_zero_or_pos X2.length with h | h
              · exact .inl (List.eq_nil_of_length_eq_zero h)
              · exact .inr (List.eq_nil_of_length_eq_zero (by omega))
            have HW2 : Aside (Nw w0 g (P ++ X1 ++ Y1 ++ (X2 ++ Y2) ++ S) wc) := by
              show Nw _ _ _ _
              have := HW1.out
              rcases hb with rfl | rfl <;> simpa [List.append_assoc] using this
            clear hb HW1
            go_wp2_with fail
            go_meet
            exact ⟨rfl, HW2⟩
        clear HW1 Hz1
        obtain ⟨hv, HW3⟩ := hcut
        subst hv
        go_upto_region 41 with fail
        obtain ⟨z2, hz2⟩ : ∃ z2 : Bool, z2 = (decide (a < i) && decide (i < mid)) := ⟨_, rfl⟩
        have Hz2 : Hid (z2 = (decide (a < i) && decide (i < mid))) := hz2
        clear hz2
        go_cut [199] from 178 (fun v wx => v = .bool z2 ∧ wx = wc)
        case first =>
          by_cases u1 : (a : Int) < (i : Int)
          · by_cases u2 : (i : Int) < (mid : Int)
            · have hz' : Hid (z2 = true) := by show _ = _; rw [Hz2.out]; simp; omega
              go_wp2_with fail
              go_meet
              exact ⟨by rw [hz'.out], rfl⟩
            · have hz' : Hid (z2 = false) := by show _ = _; rw [Hz2.out]; simp; omega
              go_wp2_with fail
              go_meet
              exact ⟨by rw [hz'.out], rfl⟩
          · have hz' : Hid (z2 = false) := by show _ = _; rw [Hz2.out]; simp; omega
            go_wp2_with fail
            go_meet
            exact ⟨by rw [hz'.out], rfl⟩
        obtain ⟨hv, hw⟩ := hcut
        subst hv hw
        go_upto_if 199 with fail
        go_cut [24] from 178 (fun v wx => v = .int .i64 en ∧ ∃ M1, Hid (Srt M1 (X1 ++ Y1)) ∧ Aside (Nw w0 g (P ++ M1 ++ (X2 ++ Y2) ++ S) wx))
        case first =>
          cases z2 with
          | true =>
            have hb : a < i ∧ i < mid := by simpa using Hz2.out
            have CR := IH.out a i mid P X1 Y1 (X2 ++ Y2 ++ S) wc (by have g1 := HLN.out; have g2 := HMF.out; omega) (by have g1 := HLN.out; have g2 := hn; rw [HLL.out] at g2; simp at g2 ⊢; omega) HA.out (by have g1 := HLN.out; omega) (by have g1 := HLN.out; omega) (by have g1 := HLN.out; omega) (by have g1 := HLN.out; omega) (by have g1 := HX.out; rw [← HE.out.1] at g1; exact (Rise.app.1 g1).1) (by have g1 := HY.out; rw [← HE.out.2] at g1; exact (Rise.app.1 g1).1) (by have := HW3.out; simpa [List.append_assoc] using this)
            clear hb
            go_wp2_with fail
            refine CR.mono ?_
            rintro e w2 ⟨rfl, M1, hM1, hw2⟩
            have HM1 : Hid (Srt M1 (X1 ++ Y1)) := hM1
            have HW2 : Aside (Nw w0 g (P ++ M1 ++ (X2 ++ Y2 ++ S)) w2) := hw2
            clear hw2 hM1 CR HW3
            go_wp2_with fail
            go_meet
            exact ⟨rfl, M1, HM1, by show Nw _ _ _ _; have := HW2.out; simpa [List.append_assoc] using this⟩
          | false =>
            have HM1 : Hid (Srt (X1 ++ Y1) (X1 ++ Y1)) := by
              have g0 : ¬ (a < i ∧ i < mid) := by simpa using Hz2.out
              have g1 := HLN.out
              have g4 := HX.out; rw [← HE.out.1] at g4
              have g5 := HY.out; rw [← HE.out.2] at g5
              refine Srt.self ?_
              rcases Nat.eq_zero_or_pos X1.length with h | h
              · rw [List.eq_nil_of_length_eq_zero h]; exact (Rise.app.1 g5).1
              · rw [List.eq_nil_of_length_eq_zero (show Y1.length = 0 by omega), List.append_nil]; exact (Rise.app.1 g4).1
            go_wp2_with fail
            go_meet
            exact ⟨rfl, X1 ++ Y1, HM1, by show Nw _ _ _ _; have := HW3.out; simpa [List.append_assoc] using this⟩
        clear HW3 Hz2
        obtain ⟨hv, M1, HM1, HW4⟩ := hcut
        subst hv
        have HLM : Hid (M1.length = X1.length + Y1.length) := by show _ = _; have := HM1.out.2.2; simpa using this
        go_upto_region 43 with fail
        obtain ⟨z3, hz3⟩ : ∃ z3 : Bool, z3 = (decide (mid < en) && decide (en < b)) := ⟨_, rfl⟩
        have Hz3 : Hid (z3 = (decide (mid < en) && decide (en < b))) := hz3
        clear hz3
        go_cut [213] from 178 (fun v wx => v = .bool z3 ∧ wx = wc)
        case first =>
          by_cases u1 : (mid : Int) < (en : Int)
          · by_cases u2 : (en : Int) < (b : Int)
            · have hz' : Hid (z3 = true) := by show _ = _; rw [Hz3.out]; simp; omega
              go_wp2_with fail
              go_meet
              exact ⟨by rw [hz'.out], rfl⟩
            · have hz' : Hid (z3 = false) := by show _ = _; rw [Hz3.out]; simp; omega
              go_wp2_with fail
              go_meet
              exact ⟨by rw [hz'.out], rfl⟩
          · have hz' : Hid (z3 = false) := by show _ = _; rw [Hz3.out]; simp; omega
            go_wp2_with fail
            go_meet
            exact ⟨by rw [hz'.out], rfl⟩
        obtain ⟨hv, hw⟩ := hcut
        subst hv hw
        have HFIN : Aside (∀ M2 w2, Srt M2 (X2 ++ Y2) → Nw w0 g (P ++ M1 ++ M2 ++ S) w2 → ∃ M, Srt M (X ++ Y) ∧ Nw w0 g (P ++ M ++ S) w2) := fun M2 w2 k1 k2 => by
          refine ⟨M1 ++ M2, ?_, by simpa [List.append_assoc] using k2⟩
          have g4 := HX.out; rw [← HE.out.1] at g4
          have g5 := HY.out; rw [← HE.out.2] at g5
          have := srt_merge g4 g5 HC.out.1 HC.out.2 HM1.out k1
          rw [HE.out.1, HE.out.2] at this
          exact this
        cases z3 with
        | true =>
          have hb : mid < en ∧ en < b := by simpa using Hz3.out
          have CR := IH.out mid en b (P ++ M1) X2 Y2 S wc (by have g1 := HLN.out; have g2 := HMF.out; have g3 := HM.out; have g4 := HB.out; omega) (by have g1 := HLN.out; have g2 := hn; have g3 := HLM.out; rw [HLL.out] at g2; simp at g2 ⊢; omega) (by have g1 := HLN.out; have g2 := HA.out; have g3 := HLM.out; simp; omega) (by have g1 := HLN.out; have g3 := HM.out; have g4 := HN.out; omega) (by have g1 := HLN.out; have g4 := HB.out; omega) (by have g1 := HLN.out; have g3 := HM.out; omega) (by have g1 := HLN.out; have g4 := HB.out; omega) (by have g1 := HX.out; rw [← HE.out.1] at g1; exact (Rise.app.1 g1).2.1) (by have g1 := HY.out; rw [← HE.out.2] at g1; exact (Rise.app.1 g1).2.1) (by have := HW4.out; simpa [List.append_assoc] using this)
          clear hb
          go_wp2_with fail
          refine CR.mono ?_
          rintro e w2 ⟨rfl, M2, hM2, hw2⟩
          have HD := HFIN.out M2 w2 hM2 hw2
          have HD' : Aside _ := HD
          clear hw2 hM2 CR HW4 HD
          go_wp2
          go_end0
          exact ⟨rfl, HD'.out⟩
        | false =>
          have HD : Aside (∃ M, Srt M (X ++ Y) ∧ Nw w0 g (P ++ M ++ S) wc) := by
            have g0 : ¬ (mid < en ∧ en < b) := by simpa using Hz3.out
            have g1 := HLN.out; have g6 := HB.out; have g7 := HM.out
            have g4 := HX.out; rw [← HE.out.1] at g4
            have g5 := HY.out; rw [← HE.out.2] at g5
            refine HFIN.out (X2 ++ Y2) wc (Srt.self ?_) (by have := HW4.out; simpa [List.append_assoc] using this)
            rcases Nat.eq_zero_or_pos X2.length with h | h
            · rw [List.eq_nil_of_length_eq_zero h]; exact (Rise.app.1 g5).2.1
            · rw [List.eq_nil_of_length_eq_zero (show Y2.length = 0 by omega), List.append_nil]; exact (Rise.app.1 g4).2.1
          clear HW4
          go_wp2
          go_end0
          exact ⟨rfl, by simpa [List.append_assoc] using HD.out⟩
theorem merge_any (w0 : World) (g cap : Nat) (d0 : Array NearZ) (R : RowK nearC 7 w0 g 0 d0) (hsz : d0.size ≤ 1000000) : ∀ (f : Nat) (a m b : Nat) (P X Y S : List NearZ) (W : World), X.length + Y.length ≤ f → (P ++ X ++ Y ++ S).length = d0.size → a = P.length → m = a + X.length → b = m + Y.length → 0 < X.length → 0 < Y.length → Rise X → Rise Y → Nw w0 g (P ++ X ++ Y ++ S) W → MergeIs w0 g cap d0 a m b P X Y S W := by
  intro f
  induction f with
  | zero => intro a m b P X Y S W h1 h2 h3 h4 h5 h6; omega
  | succ f ih =>
    intro a m b P X Y S W h1 h2 h3 h4 h5 h6 h7 h8 h9 h10
    match X, h6 with
    | [x], _ =>
      exact mergeOne_any w0 g cap d0 R a m b P Y S x W h2 h3 (by rw [h4, h3]; rfl) (by rw [h5, h4, h3]; rfl) h9 hsz h10
    | x :: x2 :: X, _ =>
      match Y, h7 with
      | [y], _ =>
        exact mergeLast_any w0 g cap d0 R a m b P (x :: x2 :: X) S y W h2 h3 (by rw [h4, h3]) (by rw [h5, h4, h3]; rfl) (by simp) h8 hsz h10
      | y :: y2 :: Y, _ =>
        exact mergeMore_any w0 g cap d0 R f ih a m b P (x :: x2 :: X) (y :: y2 :: Y) S W h1 h2 h3 h4 h5 (by simp) (by simp) h8 h9 hsz h10
end Go.Proofs.Ytgljblnegiadlaa
