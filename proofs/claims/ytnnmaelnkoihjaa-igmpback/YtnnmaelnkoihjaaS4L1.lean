/- The walk of IgmpBack. -/
import Derived.Test.YtnnmaelnkoihjaaS4L0
namespace Go.Proofs.Ytnnmaelnkoihjaa
open Go.RowKit

def sameM (k t g k' t' g' : Int) : Bool := k == k' && (t == t' && g == g')
set_option maxHeartbeats 3200000 in
theorem igmpBack_walk (k t g k' t' g' : Int) (w : World) :
    Calls Try.prog 4 #[.agg #[.int .i64 k, .int .i64 t, .int .i64 g], .agg #[.int .i64 k', .int .i64 t', .int .i64 g']] w fun e w' => e = .returned (.bool true) ∧ Below w.heap.size w w' := by
  have HB0 : Hid (Below w.heap.size w ((w.alloc (.cells #[.int .i64 k, .int .i64 t, .int .i64 g] 23)).alloc (.cells #[.int .i64 k', .int .i64 t', .int .i64 g'] 23))) := below_two_new _ _ _
  have HX0 : Hid (Msg ((w.alloc (.cells #[.int .i64 k, .int .i64 t, .int .i64 g] 23)).alloc (.cells #[.int .i64 k', .int .i64 t', .int .i64 g'] 23)) w.heap.size k t g) := (msg_new w k t g).below ((Below.refl (w.heap.size + 1) _).alloc (by simp) _) (by omega)
  have HY0 : Hid (Msg ((w.alloc (.cells #[.int .i64 k, .int .i64 t, .int .i64 g] 23)).alloc (.cells #[.int .i64 k', .int .i64 t', .int .i64 g'] 23)) (w.heap.size + 1) k' t' g') := by
    have := msg_new (w.alloc (.cells #[.int .i64 k, .int .i64 t, .int .i64 g] 23)) k' t' g'
    rw [show (w.alloc (.cells #[.int .i64 k, .int .i64 t, .int .i64 g] 23)).heap.size = w.heap.size + 1 by simp] at this
    exact this
  go_enter Try.func4, Try.ntmps4
  go_upto_region 1 with fail
  generalize (w.alloc (.cells #[.int .i64 k, .int .i64 t, .int .i64 g] 23)).alloc (.cells #[.int .i64 k', .int .i64 t', .int .i64 g'] 23) = W0 at *
  obtain ⟨x0, x1, x2⟩ := id HX0.out
  go_wp2_with fail
  refine (put_any k t g W0).mono ?_
  rintro e w1 ⟨ra, na, ca, rfl, hna, hca, hOA, hb1⟩
  clear x0 x1 x2
  have HX1 : Hid (Msg w1 w.heap.size k t g) := HX0.out.below hb1 HX0.out.lt
  have HY1 : Hid (Msg w1 (w.heap.size + 1) k' t' g') := HY0.out.below hb1 HY0.out.lt
  have HB1 : Hid (Below w.heap.size w w1) := below_more HB0.out hb1 HB0.out.size
  have HOA : Hid (na = (putB k t g).length ∧ na ≤ ca ∧ Bts w1 ra (putB k t g)) := ⟨hna, hca, hOA⟩
  clear hb1 hOA hna hca HX0 HY0 HB0
  obtain ⟨y0, y1, y2⟩ := id HY1.out
  go_wp2_with fail
  refine (put_any k' t' g' w1).mono ?_
  rintro e w2 ⟨rb, nb, cb, rfl, hnb, hcb, hOB, hb2⟩
  clear y0 y1 y2
  have HX2 : Hid (Msg w2 w.heap.size k t g) := HX1.out.below hb2 HX1.out.lt
  have HY2 : Hid (Msg w2 (w.heap.size + 1) k' t' g') := HY1.out.below hb2 HY1.out.lt
  have HB2 : Hid (Below w.heap.size w w2) := below_more HB1.out hb2 HB1.out.size
  have HOB : Hid (nb = (putB k' t' g').length ∧ nb ≤ cb ∧ Bts w2 rb (putB k' t' g')) := ⟨hnb, hcb, hOB⟩
  have HOA2 : Hid (na = (putB k t g).length ∧ na ≤ ca ∧ Bts w2 ra (putB k t g)) := ⟨HOA.out.1, HOA.out.2.1, HOA.out.2.2.below hb2⟩
  clear hb2 hOB hnb hcb HX1 HY1 HB1 HOA
  by_cases ka : putE k t g = 0
  rotate_left
  · have k0 : (putE k t g != 0) = true := by simp [ka]
    clear HOA2 HOB
    generalize putE k t g = r at *
    go_wp2_with fail
    refine (num_any _ _).mono ?_
    rintro e w' ⟨rfl, rfl⟩
    go_wp2_with fail
    refine (awake_any _).mono ?_
    rintro e w4 ⟨rfl, hb4⟩
    have HB4 : Hid (Below w.heap.size w w4) := below_more HB2.out hb4 HB2.out.size
    clear hb4
    go_wp2
    go_ret
    exact ⟨rfl, HB4.out⟩
  by_cases kb : putE k' t' g' = 0
  rotate_left
  · have k0 : (putE k' t' g' != 0) = true := by simp [kb]
    clear HOA2 HOB
    rw [ka]
    clear ka
    generalize putE k' t' g' = r at *
    go_wp2_with fail
    refine (num_any _ _).mono ?_
    rintro e w' ⟨rfl, rfl⟩
    go_wp2_with fail
    refine (num_any _ _).mono ?_
    rintro e w' ⟨rfl, rfl⟩
    go_wp2_with fail
    refine (awake_any _).mono ?_
    rintro e w4 ⟨rfl, hb4⟩
    have HB4 : Hid (Below w.heap.size w w4) := below_more HB2.out hb4 HB2.out.size
    clear hb4
    go_wp2
    go_ret
    exact ⟨rfl, HB4.out⟩
  obtain ⟨ea, hca, hBA⟩ := HOA2.out
  obtain ⟨eb, hcb, hBB⟩ := HOB.out
  rw [putB_ok ka] at ea hBA
  rw [putB_ok kb] at eb hBB
  have hget := get_any ra na ca (layZ (codeZ k) t g) w2 ea hBA (layZ_bd _ _ _) hca
  obtain ⟨g0, gK, gT, gG⟩ := lay_got ka
  unfold GotEnd at hget
  rw [g0, gK, gT, gG] at hget
  rw [layZ_length] at ea eb
  subst ea eb
  have HIJ : Hid (layZ (codeZ k) t g = layZ (codeZ k') t' g' → k = k' ∧ t = t' ∧ g = g') := putB_inj ka kb
  have HBA : Hid (Bts w2 ra (layZ (codeZ k) t g)) := hBA
  have HBB : Hid (Bts w2 rb (layZ (codeZ k') t' g')) := hBB
  rw [ka, kb]
  clear g0 gK gT gG ka kb hBA hBB HOA2 HOB
  go_wp2_with fail
  refine (num_any _ _).mono ?_
  rintro e w' ⟨rfl, rfl⟩
  go_wp2_with fail
  refine (num_any _ _).mono ?_
  rintro e w' ⟨rfl, rfl⟩
  go_wp2_with fail
  refine hget.mono ?_
  rintro e w3 ⟨rfl, hb3⟩
  clear hget
  go_upto_region 6 with fail
  have hbV := hb3.alloc hb3.size (.cells #[.int .i64 k, .int .i64 t, .int .i64 g] 23)
  have XC := msg_new w3 k t g
  have XA := HX2.out.below hbV HX2.out.lt
  have XB := HY2.out.below hbV HY2.out.lt
  have bX := HBA.out.below hbV
  have bY := HBB.out.below hbV
  have HBV : Hid (Below w.heap.size w (w3.alloc (.cells #[.int .i64 k, .int .i64 t, .int .i64 g] 23))) := below_more HB2.out hbV HB2.out.size
  clear hbV hb3 HX2 HY2 HB2 HBA HBB
  generalize w3.alloc (.cells #[.int .i64 k, .int .i64 t, .int .i64 g] 23) = V at *
  have hqs : ((strOf (layZ (codeZ k) t g)).toList == (strOf (layZ (codeZ k') t' g')).toList) = sameM k t g k' t' g' := by
    rw [strOf_eq _ _ (layZ_bd _ _ _) (layZ_bd _ _ _)]
    unfold sameM
    rw [Bool.eq_iff_iff]
    simp only [decide_eq_true_eq, Bool.and_eq_true, beq_iff_eq]
    exact ⟨fun e => HIJ.out e, fun ⟨e1, e2, e3⟩ => by rw [e1, e2, e3]⟩
  have cX : ∀ X, Below V.heap.size V X → Sem.run Try.prog (convert 24 9 (.slice ra 8 ca)) X = .ok (.string (strOf (layZ (codeZ k) t g))) X := fun X hX => conv_bts X ra _ ca _ rfl (bX.below hX) (layZ_bd _ _ _)
  have cY : ∀ X, Below V.heap.size V X → Sem.run Try.prog (convert 24 9 (.slice rb 8 cb)) X = .ok (.string (strOf (layZ (codeZ k') t' g'))) X := fun X hX => conv_bts X rb _ cb _ rfl (bY.below hX) (layZ_bd _ _ _)
  have FA : ∀ (X : World), Below V.heap.size V X → Calls Try.prog 7 #[] X fun e w' => e = .returned (.bool true) ∧ Hid (Below V.heap.size V w') := by
    intro X hX
    refine (awake_any X).mono ?_
    rintro e w' ⟨rfl, hb⟩
    exact ⟨rfl, hX.trans (hb.mono hX.size)⟩
  generalize strOf (layZ (codeZ k) t g) = s1 at *
  generalize strOf (layZ (codeZ k') t' g') = s2 at *
  have keepS : Hid (∀ X, Below V.heap.size V X → X.cell? ⟨w3.heap.size, 0, none⟩ = some (.int .i64 k) ∧ X.cell? ⟨w3.heap.size, 1, none⟩ = some (.int .i64 t) ∧ X.cell? ⟨w3.heap.size, 2, none⟩ = some (.int .i64 g) ∧ X.cell? ⟨w.heap.size, 0, none⟩ = some (.int .i64 k) ∧ X.cell? ⟨w.heap.size, 1, none⟩ = some (.int .i64 t) ∧ X.cell? ⟨w.heap.size, 2, none⟩ = some (.int .i64 g) ∧ X.cell? ⟨w.heap.size + 1, 0, none⟩ = some (.int .i64 k') ∧ X.cell? ⟨w.heap.size + 1, 1, none⟩ = some (.int .i64 t') ∧ X.cell? ⟨w.heap.size + 1, 2, none⟩ = some (.int .i64 g') ∧ Sem.run Try.prog (convert 24 9 (.slice ra 8 ca)) X = .ok (.string s1) X ∧ Sem.run Try.prog (convert 24 9 (.slice rb 8 cb)) X = .ok (.string s2) X ∧ Hid (Below V.heap.size V X)) := fun X hX => by
    obtain ⟨u0, u1, u2⟩ := XC.below hX XC.lt
    obtain ⟨v0, v1, v2⟩ := XA.below hX XA.lt
    obtain ⟨w0, w1, w2⟩ := XB.below hX XB.lt
    exact ⟨u0, u1, u2, v0, v1, v2, w0, w1, w2, cX X hX, cY X hX, hX⟩
  have hVd : Hid (Below V.heap.size V V.drew) := (Below.refl _ _).drew
  clear cX cY bX bY XA XB XC HIJ
  unfold sameM at hqs
  cases h1 : k == k' <;> cases h2 : t == t' <;> cases h3 : g == g' <;> rw [h1, h2, h3] at hqs <;> simp only [Bool.and_true, Bool.and_false] at hqs
  all_goals
    go_region_held3 (fun X => X.cell? ⟨w3.heap.size, 0, none⟩ = some (.int .i64 k) ∧ X.cell? ⟨w3.heap.size, 1, none⟩ = some (.int .i64 t) ∧ X.cell? ⟨w3.heap.size, 2, none⟩ = some (.int .i64 g) ∧ X.cell? ⟨w.heap.size, 0, none⟩ = some (.int .i64 k) ∧ X.cell? ⟨w.heap.size, 1, none⟩ = some (.int .i64 t) ∧ X.cell? ⟨w.heap.size, 2, none⟩ = some (.int .i64 g) ∧ X.cell? ⟨w.heap.size + 1, 0, none⟩ = some (.int .i64 k') ∧ X.cell? ⟨w.heap.size + 1, 1, none⟩ = some (.int .i64 t') ∧ X.cell? ⟨w.heap.size + 1, 2, none⟩ = some (.int .i64 g') ∧ Sem.run Try.prog (convert 24 9 (.slice ra 8 ca)) X = .ok (.string s1) X ∧ Sem.run Try.prog (convert 24 9 (.slice rb 8 cb)) X = .ok (.string s2) X ∧ Hid (Below V.heap.size V X)) (with_reducible first | exact keepS.out _ hVd.out | exact keepS.out _ hk.out | assumption)
      (first | (go_at_call 12; refine (num_any _ _).mono ?_; rintro e w' ⟨rfl, rfl⟩) | (go_at_call 7; refine (FA _ (by go_split_ands; exact Hid.out (by assumption))).mono ?_; rintro e w' ⟨rfl, hk⟩))
    rename_i hH
    have HR : Hid (Below w.heap.size w w') := below_more HBV.out hk.out HBV.out.size
    clear hH hk keepS FA
    go_wp2
    go_ret
    exact ⟨rfl, HR.out⟩
end Go.Proofs.Ytnnmaelnkoihjaa
