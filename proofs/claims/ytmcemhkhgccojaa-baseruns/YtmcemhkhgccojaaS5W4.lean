/- Right: the whole of it. -/
import Derived.Test.YtmcemhkhgccojaaS5W3
namespace Go.Proofs.Ytmcemhkhgccojaa
open Go.RowKit

set_option maxHeartbeats 1600000 in
theorem rightBody_1 (s : Seats) (l : LsaZ) (w : World) (hH : Held w s l) (hf : Fits l) (hk : l.head.kind = 1) :
    Calls Try.prog 65 #[.agg (lsaA s l)] w fun e w' => e = .returned (.bool (rightBodyB l)) ∧ Below w.heap.size w w' := by
  have HE : Hid (rightBodyB l = (rightRouterB l && noNetworkB l && noGroupB l)) := by show _ = _; unfold rightBodyB; simp [hk]
  have HW : Hid (Held w s l) := hH
  have HF : Hid (Fits l) := hf
  have HX : Hid (Box _ _ _ _) := box_new w s l
  have e1 : (l.head.kind == 1) = true := by simp [hk]
  clear hH hf hk
  generalize rightBodyB l = R at *
  go_enter Try.func65, Try.ntmps65
  go_wp2_with fail
  refine (rightRouter_any s l _ (HW.out.below (below_new' _ _)) HF.out).mono ?_
  rintro e w1 ⟨rfl, hb⟩
  have HB1 : Hid (Below w.heap.size w w1) := below_more (below_new' _ _) hb (by simp)
  have HX1 : Hid (Box w1 w.heap.size s l) := HX.out.below hb HX.out.lt
  clear hb
  cases ha : rightRouterB l with
  | false =>
    go_wp2
    go_ret
    exact ⟨ret_bool (by rw [HE.out, ha]; rfl), HB1.out⟩
  | true =>
    have hX := HX1.out
    obtain ⟨c0, c1, c2, c3, c4, c5, c6, c7, c8, c9, c10, c11⟩ := hX
    go_wp2_with fail
    refine (noNetwork_any s l _ HF.out).mono ?_
    rintro e w2 ⟨rfl, hb⟩
    have HB2 : Hid (Below w.heap.size w w2) := below_more HB1.out hb HB1.out.size
    have hX2 : Box w2 w.heap.size s l := HX1.out.below hb HX1.out.lt
    clear hb c0 c1 c2 c3 c4 c5 c6 c7 c8 c9 c10 c11
    cases hc : noNetworkB l with
    | false =>
      go_wp2
      go_ret
      exact ⟨ret_bool (by rw [HE.out, ha, hc]; rfl), HB2.out⟩
    | true =>
      obtain ⟨c0, c1, c2, c3, c4, c5, c6, c7, c8, c9, c10, c11⟩ := hX2
      go_wp2_with fail
      refine (noGroup_any s l _ HF.out).mono ?_
      rintro e w3 ⟨rfl, hb⟩
      have HB3 : Hid (Below w.heap.size w w3) := below_more HB2.out hb HB2.out.size
      clear hb
      go_wp2
      go_ret
      exact ⟨ret_bool (by rw [HE.out, ha, hc]; rfl), HB3.out⟩
set_option maxHeartbeats 1600000 in
theorem rightBody_2 (s : Seats) (l : LsaZ) (w : World) (hH : Held w s l) (hf : Fits l) (hk : l.head.kind = 2) :
    Calls Try.prog 65 #[.agg (lsaA s l)] w fun e w' => e = .returned (.bool (rightBodyB l)) ∧ Below w.heap.size w w' := by
  have HE : Hid (rightBodyB l = (noRouterB l && rightNetworkB l && noGroupB l)) := by show _ = _; unfold rightBodyB; simp [hk]
  have HW : Hid (Held w s l) := hH
  have HF : Hid (Fits l) := hf
  have HX : Hid (Box _ _ _ _) := box_new w s l
  have e1 : (l.head.kind == 1) = false := by simp [hk]
  have e2 : (l.head.kind == 2) = true := by simp [hk]
  clear hH hf hk
  generalize rightBodyB l = R at *
  go_enter Try.func65, Try.ntmps65
  go_wp2_with fail
  refine (noRouter_any s l _ HF.out).mono ?_
  rintro e w1 ⟨rfl, hb⟩
  have HB1 : Hid (Below w.heap.size w w1) := below_more (below_new' _ _) hb (by simp)
  have HX1 : Hid (Box w1 w.heap.size s l) := HX.out.below hb HX.out.lt
  clear hb
  cases ha : noRouterB l with
  | false =>
    go_wp2
    go_ret
    exact ⟨ret_bool (by rw [HE.out, ha]; rfl), HB1.out⟩
  | true =>
    have hX := HX1.out
    obtain ⟨c0, c1, c2, c3, c4, c5, c6, c7, c8, c9, c10, c11⟩ := hX
    go_wp2_with fail
    refine (rightNetwork_any s l _ (HW.out.below HB1.out) HF.out).mono ?_
    rintro e w2 ⟨rfl, hb⟩
    have HB2 : Hid (Below w.heap.size w w2) := below_more HB1.out hb HB1.out.size
    have hX2 : Box w2 w.heap.size s l := HX1.out.below hb HX1.out.lt
    clear hb c0 c1 c2 c3 c4 c5 c6 c7 c8 c9 c10 c11
    cases hc : rightNetworkB l with
    | false =>
      go_wp2
      go_ret
      exact ⟨ret_bool (by rw [HE.out, ha, hc]; rfl), HB2.out⟩
    | true =>
      obtain ⟨c0, c1, c2, c3, c4, c5, c6, c7, c8, c9, c10, c11⟩ := hX2
      go_wp2_with fail
      refine (noGroup_any s l _ HF.out).mono ?_
      rintro e w3 ⟨rfl, hb⟩
      have HB3 : Hid (Below w.heap.size w w3) := below_more HB2.out hb HB2.out.size
      clear hb
      go_wp2
      go_ret
      exact ⟨ret_bool (by rw [HE.out, ha, hc]; rfl), HB3.out⟩
set_option maxHeartbeats 1600000 in
theorem rightBody_6 (s : Seats) (l : LsaZ) (w : World) (hH : Held w s l) (hf : Fits l) (hk : l.head.kind = 6) :
    Calls Try.prog 65 #[.agg (lsaA s l)] w fun e w' => e = .returned (.bool (rightBodyB l)) ∧ Below w.heap.size w w' := by
  have HE : Hid (rightBodyB l = (noRouterB l && noNetworkB l && rightGroupB l)) := by show _ = _; unfold rightBodyB; simp [hk]
  have HW : Hid (Held w s l) := hH
  have HF : Hid (Fits l) := hf
  have HX : Hid (Box _ _ _ _) := box_new w s l
  have e1 : (l.head.kind == 1) = false := by simp [hk]
  have e2 : (l.head.kind == 2) = false := by simp [hk]
  have e6 : (l.head.kind == 6) = true := by simp [hk]
  clear hH hf hk
  generalize rightBodyB l = R at *
  go_enter Try.func65, Try.ntmps65
  go_wp2_with fail
  refine (noRouter_any s l _ HF.out).mono ?_
  rintro e w1 ⟨rfl, hb⟩
  have HB1 : Hid (Below w.heap.size w w1) := below_more (below_new' _ _) hb (by simp)
  have HX1 : Hid (Box w1 w.heap.size s l) := HX.out.below hb HX.out.lt
  clear hb
  cases ha : noRouterB l with
  | false =>
    go_wp2
    go_ret
    exact ⟨ret_bool (by rw [HE.out, ha]; rfl), HB1.out⟩
  | true =>
    have hX := HX1.out
    obtain ⟨c0, c1, c2, c3, c4, c5, c6, c7, c8, c9, c10, c11⟩ := hX
    go_wp2_with fail
    refine (noNetwork_any s l _ HF.out).mono ?_
    rintro e w2 ⟨rfl, hb⟩
    have HB2 : Hid (Below w.heap.size w w2) := below_more HB1.out hb HB1.out.size
    have hX2 : Box w2 w.heap.size s l := HX1.out.below hb HX1.out.lt
    clear hb c0 c1 c2 c3 c4 c5 c6 c7 c8 c9 c10 c11
    cases hc : noNetworkB l with
    | false =>
      go_wp2
      go_ret
      exact ⟨ret_bool (by rw [HE.out, ha, hc]; rfl), HB2.out⟩
    | true =>
      obtain ⟨c0, c1, c2, c3, c4, c5, c6, c7, c8, c9, c10, c11⟩ := hX2
      go_wp2_with fail
      refine (rightGroup_any s l _ (HW.out.below HB2.out) HF.out).mono ?_
      rintro e w3 ⟨rfl, hb⟩
      have HB3 : Hid (Below w.heap.size w w3) := below_more HB2.out hb HB2.out.size
      clear hb
      go_wp2
      go_ret
      exact ⟨ret_bool (by rw [HE.out, ha, hc]; rfl), HB3.out⟩
theorem rightBodyB_not {l : LsaZ} (h1 : ¬ l.head.kind = 1) (h2 : ¬ l.head.kind = 2) (h6 : ¬ l.head.kind = 6) : rightBodyB l = false := by unfold rightBodyB; simp [h1, h2, h6]
set_option maxHeartbeats 800000 in
theorem rightBody_none (s : Seats) (l : LsaZ) (w : World) (h1 : ¬ l.head.kind = 1) (h2 : ¬ l.head.kind = 2) (h6 : ¬ l.head.kind = 6) :
    Calls Try.prog 65 #[.agg (lsaA s l)] w fun e w' => e = .returned (.bool (rightBodyB l)) ∧ Below w.heap.size w w' := by
  have HE : Hid (_ = _) := rightBodyB_not h1 h2 h6
  have e1 : (l.head.kind == 1) = false := by simp [h1]
  have e2 : (l.head.kind == 2) = false := by simp [h2]
  have e6 : (l.head.kind == 6) = false := by simp [h6]
  clear h1 h2 h6
  go_enter Try.func65, Try.ntmps65
  go_wp2
  go_ret
  exact ⟨ret_bool HE.out.symm, below_new' _ _⟩
theorem rightBody_any (s : Seats) (l : LsaZ) (w : World) (hH : Held w s l) (hf : Fits l) :
    Calls Try.prog 65 #[.agg (lsaA s l)] w fun e w' => e = .returned (.bool (rightBodyB l)) ∧ Below w.heap.size w w' := by
  by_cases h1 : l.head.kind = 1
  · exact rightBody_1 s l w hH hf h1
  by_cases h2 : l.head.kind = 2
  · exact rightBody_2 s l w hH hf h2
  by_cases h6 : l.head.kind = 6
  · exact rightBody_6 s l w hH hf h6
  exact rightBody_none s l w h1 h2 h6
set_option maxHeartbeats 800000 in
theorem rightLsa_any (s : Seats) (l : LsaZ) (w : World) (hH : Held w s l) (hf : Fits l) :
    Calls Try.prog 45 #[.agg (lsaA s l)] w fun e w' => e = .returned (.bool (rightLsaB l)) ∧ Below w.heap.size w w' := by
  have HE : Hid (rightLsaB l = (rightHeadB l.head && rightBodyB l)) := rfl
  have HW : Hid (Held w s l) := hH
  have HF : Hid (Fits l) := hf
  have HX : Hid (Box _ _ _ _) := box_new w s l
  clear hH hf
  generalize rightLsaB l = R at *
  go_enter Try.func45, Try.ntmps45
  go_wp2_with fail
  refine (rightHead_any l.head _).mono ?_
  rintro e w1 ⟨rfl, hb⟩
  have HB1 : Hid (Below w.heap.size w w1) := below_more (below_new' _ _) hb (by simp)
  have hX := HX.out.below hb HX.out.lt
  clear hb
  cases ha : rightHeadB l.head with
  | false =>
    go_wp2
    go_ret
    exact ⟨ret_bool (by rw [HE.out, ha]; rfl), HB1.out⟩
  | true =>
    obtain ⟨c0, c1, c2, c3, c4, c5, c6, c7, c8, c9, c10, c11⟩ := hX
    go_wp2_with fail
    refine (rightBody_any s l _ (HW.out.below HB1.out) HF.out).mono ?_
    rintro e w2 ⟨rfl, hb⟩
    have HB : Hid (Below w.heap.size w w2) := below_more HB1.out hb HB1.out.size
    clear hb
    go_wp2
    go_ret
    exact ⟨ret_bool (by rw [HE.out, ha]; rfl), HB.out⟩
end Go.Proofs.Ytmcemhkhgccojaa
