/- Which of two heads is newer: the walk of the law. -/
import Derived.Test.YtphjffagjjkeeaaS7W4
import Derived.Deep.RegionHeld3
namespace Go.Proofs.Ytphjffagjjkeeaa
open Go.RowKit

set_option maxHeartbeats 6400000 in
theorem newerAll_walk (a0 a1 a2 a3 a4 a5 a6 b0 b1 b2 b3 b4 b5 b6 : Int) (w : World) (ha : In64 a0) (hb : In64 b0) :
    Calls Try.prog 3 #[.agg #[.int .i64 a0, .int .i64 a1, .int .i64 a2, .int .i64 a3, .int .i64 a4, .int .i64 a5, .int .i64 a6], .agg #[.int .i64 b0, .int .i64 b1, .int .i64 b2, .int .i64 b3, .int .i64 b4, .int .i64 b5, .int .i64 b6]] w fun e w' => e = .returned (.bool true) ∧ Below w.heap.size w w' := by
  have Ia : Hid (In64 a0) := ha
  have Ib : Hid (In64 b0) := hb
  clear ha hb
  have Va : Hid (Var ((w.alloc (.cells #[.int .i64 a0, .int .i64 a1, .int .i64 a2, .int .i64 a3, .int .i64 a4, .int .i64 a5, .int .i64 a6] 23)).alloc (.cells #[.int .i64 b0, .int .i64 b1, .int .i64 b2, .int .i64 b3, .int .i64 b4, .int .i64 b5, .int .i64 b6] 23)) (w.heap.size) [.int .i64 a0, .int .i64 a1, .int .i64 a2, .int .i64 a3, .int .i64 a4, .int .i64 a5, .int .i64 a6]) := by
    have h0 := var_new w [.int .i64 a0, .int .i64 a1, .int .i64 a2, .int .i64 a3, .int .i64 a4, .int .i64 a5, .int .i64 a6] 23
    exact h0 |>.alloc _
  have Vb : Hid (Var ((w.alloc (.cells #[.int .i64 a0, .int .i64 a1, .int .i64 a2, .int .i64 a3, .int .i64 a4, .int .i64 a5, .int .i64 a6] 23)).alloc (.cells #[.int .i64 b0, .int .i64 b1, .int .i64 b2, .int .i64 b3, .int .i64 b4, .int .i64 b5, .int .i64 b6] 23)) (w.heap.size + 1) [.int .i64 b0, .int .i64 b1, .int .i64 b2, .int .i64 b3, .int .i64 b4, .int .i64 b5, .int .i64 b6]) := by
    have h0 := var_new (w.alloc (.cells #[.int .i64 a0, .int .i64 a1, .int .i64 a2, .int .i64 a3, .int .i64 a4, .int .i64 a5, .int .i64 a6] 23)) [.int .i64 b0, .int .i64 b1, .int .i64 b2, .int .i64 b3, .int .i64 b4, .int .i64 b5, .int .i64 b6] 23
    rw [size_new] at h0
    exact h0
  have HB : Hid (Below w.heap.size w ((w.alloc (.cells #[.int .i64 a0, .int .i64 a1, .int .i64 a2, .int .i64 a3, .int .i64 a4, .int .i64 a5, .int .i64 a6] 23)).alloc (.cells #[.int .i64 b0, .int .i64 b1, .int .i64 b2, .int .i64 b3, .int .i64 b4, .int .i64 b5, .int .i64 b6] 23))) := ((below_new' _ _).alloc (by simp) _)
  go_enter Try.func3, Try.ntmps3
  go_upto_region 1 with fail
  generalize ((w.alloc (.cells #[.int .i64 a0, .int .i64 a1, .int .i64 a2, .int .i64 a3, .int .i64 a4, .int .i64 a5, .int .i64 a6] 23)).alloc (.cells #[.int .i64 b0, .int .i64 b1, .int .i64 b2, .int .i64 b3, .int .i64 b4, .int .i64 b5, .int .i64 b6] 23)) = V at *
  obtain ⟨n, hn⟩ : ∃ n, newI a0 a4 a5 b0 b4 b5 = n := ⟨_, rfl⟩
  have hm : newI b0 b4 b5 a0 a4 a5 = -n := by rw [newI_swap, hn]
  have h3 := newI_three a0 a4 a5 b0 b4 b5
  rw [hn] at h3
  have keepS : Hid (∀ X, Below V.heap.size V X → X.cell? ⟨w.heap.size, 0, none⟩ = some (.int .i64 a0) ∧ X.cell? ⟨w.heap.size, 1, none⟩ = some (.int .i64 a1) ∧ X.cell? ⟨w.heap.size, 2, none⟩ = some (.int .i64 a2) ∧ X.cell? ⟨w.heap.size, 3, none⟩ = some (.int .i64 a3) ∧ X.cell? ⟨w.heap.size, 4, none⟩ = some (.int .i64 a4) ∧ X.cell? ⟨w.heap.size, 5, none⟩ = some (.int .i64 a5) ∧ X.cell? ⟨w.heap.size, 6, none⟩ = some (.int .i64 a6) ∧ X.cell? ⟨w.heap.size + 1, 0, none⟩ = some (.int .i64 b0) ∧ X.cell? ⟨w.heap.size + 1, 1, none⟩ = some (.int .i64 b1) ∧ X.cell? ⟨w.heap.size + 1, 2, none⟩ = some (.int .i64 b2) ∧ X.cell? ⟨w.heap.size + 1, 3, none⟩ = some (.int .i64 b3) ∧ X.cell? ⟨w.heap.size + 1, 4, none⟩ = some (.int .i64 b4) ∧ X.cell? ⟨w.heap.size + 1, 5, none⟩ = some (.int .i64 b5) ∧ X.cell? ⟨w.heap.size + 1, 6, none⟩ = some (.int .i64 b6) ∧ Hid (Below V.heap.size V X)) := fun X hX => by
    have h1 := Va.out.below hX Va.out.lt
    have h2 := Vb.out.below hX Vb.out.lt
    exact ⟨h1.cell 0 rfl, h1.cell 1 rfl, h1.cell 2 rfl, h1.cell 3 rfl, h1.cell 4 rfl, h1.cell 5 rfl, h1.cell 6 rfl, h2.cell 0 rfl, h2.cell 1 rfl, h2.cell 2 rfl, h2.cell 3 rfl, h2.cell 4 rfl, h2.cell 5 rfl, h2.cell 6 rfl, hX⟩
  have HFC : Hid (∀ (X : World), Below V.heap.size V X → ∀ (D E : Value) (r : Int), ((D = .agg #[.int .i64 a0, .int .i64 a1, .int .i64 a2, .int .i64 a3, .int .i64 a4, .int .i64 a5, .int .i64 a6] ∧ E = .agg #[.int .i64 b0, .int .i64 b1, .int .i64 b2, .int .i64 b3, .int .i64 b4, .int .i64 b5, .int .i64 b6] ∧ r = n) ∨ (D = .agg #[.int .i64 b0, .int .i64 b1, .int .i64 b2, .int .i64 b3, .int .i64 b4, .int .i64 b5, .int .i64 b6] ∧ E = .agg #[.int .i64 a0, .int .i64 a1, .int .i64 a2, .int .i64 a3, .int .i64 a4, .int .i64 a5, .int .i64 a6] ∧ r = -n) ∨ (D = .agg #[.int .i64 a0, .int .i64 a1, .int .i64 a2, .int .i64 a3, .int .i64 a4, .int .i64 a5, .int .i64 a6] ∧ E = .agg #[.int .i64 a0, .int .i64 a1, .int .i64 a2, .int .i64 a3, .int .i64 a4, .int .i64 a5, .int .i64 a6] ∧ r = 0)) →
      Calls Try.prog 7 #[D, E] X fun e w' => e = .returned (.int .i64 r) ∧ Hid (Below V.heap.size V w')) := by
    rintro X hX D E r (⟨rfl, rfl, rfl⟩ | ⟨rfl, rfl, rfl⟩ | ⟨rfl, rfl, rfl⟩)
    · refine (cmp_at _ _ _ _ _ _ _ _ _ _ _ _ _ _ _ hn Ia.out Ib.out X).mono ?_
      rintro e w' ⟨rfl, hb⟩
      exact ⟨rfl, hX.trans (hb.mono hX.size)⟩
    · refine (cmp_at _ _ _ _ _ _ _ _ _ _ _ _ _ _ _ hm Ib.out Ia.out X).mono ?_
      rintro e w' ⟨rfl, hb⟩
      exact ⟨rfl, hX.trans (hb.mono hX.size)⟩
    · refine (cmp_at _ _ _ _ _ _ _ _ _ _ _ _ _ _ _ (newI_self _ _ _) Ia.out Ia.out X).mono ?_
      rintro e w' ⟨rfl, hb⟩
      exact ⟨rfl, hX.trans (hb.mono hX.size)⟩
  have HFR : Hid (∀ (X : World), Below V.heap.size V X → Calls Try.prog 8 #[.agg #[.int .i64 a0, .int .i64 a1, .int .i64 a2, .int .i64 a3, .int .i64 a4, .int .i64 a5, .int .i64 a6], .agg #[.int .i64 b0, .int .i64 b1, .int .i64 b2, .int .i64 b3, .int .i64 b4, .int .i64 b5, .int .i64 b6]] X fun e w' => e = .returned (.int .i64 n) ∧ Hid (Below V.heap.size V w')) := by
    intro X hX
    refine (rcmp_at _ _ _ _ _ _ _ _ _ _ _ _ _ _ _ hn Ia.out Ib.out X).mono ?_
    rintro e w' ⟨rfl, hb⟩
    exact ⟨rfl, hX.trans (hb.mono hX.size)⟩
  have FA : Hid (∀ (X : World), Below V.heap.size V X → Calls Try.prog 9 #[] X fun e w' => e = .returned (.bool true) ∧ Hid (Below V.heap.size V w')) := by
    intro X hX
    refine (awake_any X).mono ?_
    rintro e w' ⟨rfl, hb⟩
    exact ⟨rfl, hX.trans (hb.mono hX.size)⟩
  have hVd : Hid (Below V.heap.size V V.drew) := (Below.refl _ _).drew
  have w1 : IntKind.i64.wrap (-1) = -1 := by decide +kernel
  have w2 : IntKind.i64.wrap 1 = 1 := by decide +kernel
  have w3 : IntKind.i64.wrap 0 = 0 := by decide +kernel
  clear hn hm Va Vb
  rcases h3 with h3 | h3 | h3
  · subst h3
    first | rw [Int.neg_neg] at HFC | rw [Int.neg_zero] at HFC | skip
    go_region_held3 (fun X => X.cell? ⟨w.heap.size, 0, none⟩ = some (.int .i64 a0) ∧ X.cell? ⟨w.heap.size, 1, none⟩ = some (.int .i64 a1) ∧ X.cell? ⟨w.heap.size, 2, none⟩ = some (.int .i64 a2) ∧ X.cell? ⟨w.heap.size, 3, none⟩ = some (.int .i64 a3) ∧ X.cell? ⟨w.heap.size, 4, none⟩ = some (.int .i64 a4) ∧ X.cell? ⟨w.heap.size, 5, none⟩ = some (.int .i64 a5) ∧ X.cell? ⟨w.heap.size, 6, none⟩ = some (.int .i64 a6) ∧ X.cell? ⟨w.heap.size + 1, 0, none⟩ = some (.int .i64 b0) ∧ X.cell? ⟨w.heap.size + 1, 1, none⟩ = some (.int .i64 b1) ∧ X.cell? ⟨w.heap.size + 1, 2, none⟩ = some (.int .i64 b2) ∧ X.cell? ⟨w.heap.size + 1, 3, none⟩ = some (.int .i64 b3) ∧ X.cell? ⟨w.heap.size + 1, 4, none⟩ = some (.int .i64 b4) ∧ X.cell? ⟨w.heap.size + 1, 5, none⟩ = some (.int .i64 b5) ∧ X.cell? ⟨w.heap.size + 1, 6, none⟩ = some (.int .i64 b6) ∧ Hid (Below V.heap.size V X)) ((refine keepS.out _ ?_; exact Hid.out (by assumption)))
      (first | (go_at_call 9; refine (FA.out _ (by go_split_ands; exact Hid.out (by assumption))).mono ?_; rintro e w' ⟨rfl, hk⟩) | (go_at_call 8; refine (HFR.out _ (by go_split_ands; exact Hid.out (by assumption))).mono ?_; rintro e w' ⟨rfl, hk⟩) | (go_at_call 7; refine (HFC.out _ (by go_split_ands; exact Hid.out (by assumption)) _ _ (-1) ?hp).mono ?_; (case hp => (with_reducible exact .inl ⟨rfl, rfl, rfl⟩)); rintro e w' ⟨rfl, hk⟩) | (go_at_call 7; refine (HFC.out _ (by go_split_ands; exact Hid.out (by assumption)) _ _ (1) ?hp).mono ?_; (case hp => (with_reducible exact .inr (.inl ⟨rfl, rfl, rfl⟩))); rintro e w' ⟨rfl, hk⟩) | (go_at_call 7; refine (HFC.out _ (by go_split_ands; exact Hid.out (by assumption)) _ _ 0 ?hp).mono ?_; (case hp => (with_reducible exact .inr (.inr ⟨rfl, rfl, rfl⟩))); rintro e w' ⟨rfl, hk⟩) | fail)
    rename_i hH
    have HR : Hid (Below w.heap.size w w') := below_more HB.out hk.out HB.out.size
    clear hH hk keepS HFC FA HFR
    go_wp2
    go_ret
    exact ⟨rfl, HR.out⟩
  · subst h3
    first | rw [Int.neg_neg] at HFC | rw [Int.neg_zero] at HFC | skip
    go_region_held3 (fun X => X.cell? ⟨w.heap.size, 0, none⟩ = some (.int .i64 a0) ∧ X.cell? ⟨w.heap.size, 1, none⟩ = some (.int .i64 a1) ∧ X.cell? ⟨w.heap.size, 2, none⟩ = some (.int .i64 a2) ∧ X.cell? ⟨w.heap.size, 3, none⟩ = some (.int .i64 a3) ∧ X.cell? ⟨w.heap.size, 4, none⟩ = some (.int .i64 a4) ∧ X.cell? ⟨w.heap.size, 5, none⟩ = some (.int .i64 a5) ∧ X.cell? ⟨w.heap.size, 6, none⟩ = some (.int .i64 a6) ∧ X.cell? ⟨w.heap.size + 1, 0, none⟩ = some (.int .i64 b0) ∧ X.cell? ⟨w.heap.size + 1, 1, none⟩ = some (.int .i64 b1) ∧ X.cell? ⟨w.heap.size + 1, 2, none⟩ = some (.int .i64 b2) ∧ X.cell? ⟨w.heap.size + 1, 3, none⟩ = some (.int .i64 b3) ∧ X.cell? ⟨w.heap.size + 1, 4, none⟩ = some (.int .i64 b4) ∧ X.cell? ⟨w.heap.size + 1, 5, none⟩ = some (.int .i64 b5) ∧ X.cell? ⟨w.heap.size + 1, 6, none⟩ = some (.int .i64 b6) ∧ Hid (Below V.heap.size V X)) ((refine keepS.out _ ?_; exact Hid.out (by assumption)))
      (first | (go_at_call 9; refine (FA.out _ (by go_split_ands; exact Hid.out (by assumption))).mono ?_; rintro e w' ⟨rfl, hk⟩) | (go_at_call 8; refine (HFR.out _ (by go_split_ands; exact Hid.out (by assumption))).mono ?_; rintro e w' ⟨rfl, hk⟩) | (go_at_call 7; refine (HFC.out _ (by go_split_ands; exact Hid.out (by assumption)) _ _ (0) ?hp).mono ?_; (case hp => (with_reducible exact .inl ⟨rfl, rfl, rfl⟩)); rintro e w' ⟨rfl, hk⟩) | (go_at_call 7; refine (HFC.out _ (by go_split_ands; exact Hid.out (by assumption)) _ _ (0) ?hp).mono ?_; (case hp => (with_reducible exact .inr (.inl ⟨rfl, rfl, rfl⟩))); rintro e w' ⟨rfl, hk⟩) | (go_at_call 7; refine (HFC.out _ (by go_split_ands; exact Hid.out (by assumption)) _ _ 0 ?hp).mono ?_; (case hp => (with_reducible exact .inr (.inr ⟨rfl, rfl, rfl⟩))); rintro e w' ⟨rfl, hk⟩) | fail)
    rename_i hH
    have HR : Hid (Below w.heap.size w w') := below_more HB.out hk.out HB.out.size
    clear hH hk keepS HFC FA HFR
    go_wp2
    go_ret
    exact ⟨rfl, HR.out⟩
  · subst h3
    first | rw [Int.neg_neg] at HFC | rw [Int.neg_zero] at HFC | skip
    go_region_held3 (fun X => X.cell? ⟨w.heap.size, 0, none⟩ = some (.int .i64 a0) ∧ X.cell? ⟨w.heap.size, 1, none⟩ = some (.int .i64 a1) ∧ X.cell? ⟨w.heap.size, 2, none⟩ = some (.int .i64 a2) ∧ X.cell? ⟨w.heap.size, 3, none⟩ = some (.int .i64 a3) ∧ X.cell? ⟨w.heap.size, 4, none⟩ = some (.int .i64 a4) ∧ X.cell? ⟨w.heap.size, 5, none⟩ = some (.int .i64 a5) ∧ X.cell? ⟨w.heap.size, 6, none⟩ = some (.int .i64 a6) ∧ X.cell? ⟨w.heap.size + 1, 0, none⟩ = some (.int .i64 b0) ∧ X.cell? ⟨w.heap.size + 1, 1, none⟩ = some (.int .i64 b1) ∧ X.cell? ⟨w.heap.size + 1, 2, none⟩ = some (.int .i64 b2) ∧ X.cell? ⟨w.heap.size + 1, 3, none⟩ = some (.int .i64 b3) ∧ X.cell? ⟨w.heap.size + 1, 4, none⟩ = some (.int .i64 b4) ∧ X.cell? ⟨w.heap.size + 1, 5, none⟩ = some (.int .i64 b5) ∧ X.cell? ⟨w.heap.size + 1, 6, none⟩ = some (.int .i64 b6) ∧ Hid (Below V.heap.size V X)) ((refine keepS.out _ ?_; exact Hid.out (by assumption)))
      (first | (go_at_call 9; refine (FA.out _ (by go_split_ands; exact Hid.out (by assumption))).mono ?_; rintro e w' ⟨rfl, hk⟩) | (go_at_call 8; refine (HFR.out _ (by go_split_ands; exact Hid.out (by assumption))).mono ?_; rintro e w' ⟨rfl, hk⟩) | (go_at_call 7; refine (HFC.out _ (by go_split_ands; exact Hid.out (by assumption)) _ _ (1) ?hp).mono ?_; (case hp => (with_reducible exact .inl ⟨rfl, rfl, rfl⟩)); rintro e w' ⟨rfl, hk⟩) | (go_at_call 7; refine (HFC.out _ (by go_split_ands; exact Hid.out (by assumption)) _ _ (-1) ?hp).mono ?_; (case hp => (with_reducible exact .inr (.inl ⟨rfl, rfl, rfl⟩))); rintro e w' ⟨rfl, hk⟩) | (go_at_call 7; refine (HFC.out _ (by go_split_ands; exact Hid.out (by assumption)) _ _ 0 ?hp).mono ?_; (case hp => (with_reducible exact .inr (.inr ⟨rfl, rfl, rfl⟩))); rintro e w' ⟨rfl, hk⟩) | fail)
    rename_i hH
    have HR : Hid (Below w.heap.size w w') := below_more HB.out hk.out HB.out.size
    clear hH hk keepS HFC FA HFR
    go_wp2
    go_ret
    exact ⟨rfl, HR.out⟩
end Go.Proofs.Ytphjffagjjkeeaa
