/- The walk of IpBack. -/
import Derived.Test.YtknpgpmckabmbaaDoorS3L3
namespace Go.Proofs.YtknpgpmckabmbaaDoor
open Go.RowKit

/-- Put, whatever it tells. -/
theorem put_any (t p s d : Int) (a : Option Addr) (cp : Nat) (xs : List Int) (w : World) (hB : Bts w a xs) (hnil : a = none → cp = 0) (hE : Env w) :
    Calls Tryd.prog 9 #[.agg #[.int .i64 t, .int .i64 p, .int .i64 s, .int .i64 d, .slice a xs.length cp]] w fun e w' =>
      ∃ (ra : Option Addr) (m ca : Nat), e = .returned (.tuple #[.slice ra m ca, .int .i64 (putE t p s d xs.length)]) ∧ (putE t p s d xs.length = 0 → m = 20 + xs.length ∧ 20 + xs.length ≤ ca ∧ Bts w' ra (putB t p s d xs)) ∧ Below w.heap.size w w' := by
  by_cases hk : putE t p s d xs.length = 0
  · refine (put_ok t p s d a cp xs w hB hnil hk).mono ?_
    rintro e w' ⟨g, cap, rfl, ho, hb⟩
    exact ⟨_, _, _, by rw [hk], fun _ => ⟨rfl, by have := ho.cap; rw [putB_length] at this; exact this, ho.bts⟩, hb⟩
  · refine (put_bad t p s d a xs.length cp w hE _ rfl hk).mono ?_
    rintro e w' ⟨rfl, hb⟩
    exact ⟨_, _, _, rfl, fun h => absurd h hk, hb⟩

set_option maxHeartbeats 3200000 in
theorem ipBack_walk (t p s d : Int) (a : Option Addr) (cp : Nat) (xs : List Int) (t' p' s' d' : Int) (b : Option Addr) (cq : Nat) (ys : List Int) (w : World) (hB : Bts w a xs) (hz : AreBytes xs) (hnil : a = none → cp = 0)
    (hBy : Bts w b ys) (hzy : AreBytes ys) (hnily : b = none → cq = 0) (hE : Env w) :
    Calls Tryd.prog 4 #[.agg #[.int .i64 t, .int .i64 p, .int .i64 s, .int .i64 d, .slice a xs.length cp], .agg #[.int .i64 t', .int .i64 p', .int .i64 s', .int .i64 d', .slice b ys.length cq]] w fun e w' => e = .returned (.bool true) ∧ Below w.heap.size w w' := by
  have hb0 := below_two_new w (.cells #[.int .i64 t, .int .i64 p, .int .i64 s, .int .i64 d, .slice a xs.length cp] 24) (.cells #[.int .i64 t', .int .i64 p', .int .i64 s', .int .i64 d', .slice b ys.length cq] 24)
  have HB0 : Hid (Below w.heap.size w ((w.alloc (.cells #[.int .i64 t, .int .i64 p, .int .i64 s, .int .i64 d, .slice a xs.length cp] 24)).alloc (.cells #[.int .i64 t', .int .i64 p', .int .i64 s', .int .i64 d', .slice b ys.length cq] 24))) := hb0
  by_cases h1 : 1024 < xs.length
  · clear hb0
    go_enter Tryd.func4, Tryd.ntmps4
    go_wp2_with fail
    refine (awake_any _).mono ?_
    rintro e w2 ⟨rfl, hb2⟩
    go_wp2
    go_ret
    exact ⟨rfl, below_more HB0.out hb2 HB0.out.size⟩
  by_cases h2 : 1024 < ys.length
  · clear hb0
    go_enter Tryd.func4, Tryd.ntmps4
    go_wp2_with fail
    refine (awake_any _).mono ?_
    rintro e w2 ⟨rfl, hb2⟩
    go_wp2
    go_ret
    exact ⟨rfl, below_more HB0.out hb2 HB0.out.size⟩
  have HX0 : Hid (Box ((w.alloc (.cells #[.int .i64 t, .int .i64 p, .int .i64 s, .int .i64 d, .slice a xs.length cp] 24)).alloc (.cells #[.int .i64 t', .int .i64 p', .int .i64 s', .int .i64 d', .slice b ys.length cq] 24)) w.heap.size t p s d (.slice a xs.length cp)) :=
    (box_new w t p s d _).below ((Below.refl (w.heap.size + 1) _).alloc (by simp) _) (by omega)
  have HY0 : Hid (Box ((w.alloc (.cells #[.int .i64 t, .int .i64 p, .int .i64 s, .int .i64 d, .slice a xs.length cp] 24)).alloc (.cells #[.int .i64 t', .int .i64 p', .int .i64 s', .int .i64 d', .slice b ys.length cq] 24)) (w.heap.size + 1) t' p' s' d' (.slice b ys.length cq)) := by
    have := box_new (w.alloc (.cells #[.int .i64 t, .int .i64 p, .int .i64 s, .int .i64 d, .slice a xs.length cp] 24)) t' p' s' d' (.slice b ys.length cq)
    rw [show (w.alloc (.cells #[.int .i64 t, .int .i64 p, .int .i64 s, .int .i64 d, .slice a xs.length cp] 24)).heap.size = w.heap.size + 1 by simp] at this
    exact this
  have HBX : Hid (Bts w a xs) := hB
  have HZX : Hid (AreBytes xs) := hz
  have HNX : Hid (a = none → cp = 0) := hnil
  have HBY : Hid (Bts w b ys) := hBy
  have HZY : Hid (AreBytes ys) := hzy
  have HNY : Hid (b = none → cq = 0) := hnily
  have HE : Hid (Env w) := hE
  clear hB hz hnil hBy hzy hnily hE hb0
  go_enter Tryd.func4, Tryd.ntmps4
  go_upto_region 3 with fail
  generalize (w.alloc (.cells #[.int .i64 t, .int .i64 p, .int .i64 s, .int .i64 d, .slice a xs.length cp] 24)).alloc (.cells #[.int .i64 t', .int .i64 p', .int .i64 s', .int .i64 d', .slice b ys.length cq] 24) = W0 at *
  have hputA := put_any t p s d a cp xs W0 (HBX.out.below HB0.out) HNX.out (HE.out.below HB0.out (Nat.le_refl _))
  obtain ⟨x0, x1, x2, x3, x4⟩ := id HX0.out
  go_wp2_with fail
  refine hputA.mono ?_
  rintro e w1 ⟨ra, ma, ca, rfl, hOA, hb1⟩
  clear hputA x0 x1 x2 x3 x4
  have HX1 : Hid (Box w1 w.heap.size t p s d (.slice a xs.length cp)) := HX0.out.below hb1 HX0.out.lt
  have HY1 : Hid (Box w1 (w.heap.size + 1) t' p' s' d' (.slice b ys.length cq)) := HY0.out.below hb1 HY0.out.lt
  have HB1 : Hid (Below w.heap.size w w1) := below_more HB0.out hb1 HB0.out.size
  have HOA : Hid (putE t p s d xs.length = 0 → ma = 20 + xs.length ∧ 20 + xs.length ≤ ca ∧ Bts w1 ra (putB t p s d xs)) := hOA
  clear hb1 hOA HX0 HY0 HB0
  have hputB := put_any t' p' s' d' b cq ys w1 (HBY.out.below HB1.out) HNY.out (HE.out.below HB1.out (Nat.le_refl _))
  obtain ⟨y0, y1, y2, y3, y4⟩ := id HY1.out
  go_wp2_with fail
  refine hputB.mono ?_
  rintro e w2 ⟨rb, mb, cb, rfl, hOB, hb2⟩
  clear hputB y0 y1 y2 y3 y4
  have HX2 : Hid (Box w2 w.heap.size t p s d (.slice a xs.length cp)) := HX1.out.below hb2 HX1.out.lt
  have HY2 : Hid (Box w2 (w.heap.size + 1) t' p' s' d' (.slice b ys.length cq)) := HY1.out.below hb2 HY1.out.lt
  have HB2 : Hid (Below w.heap.size w w2) := below_more HB1.out hb2 HB1.out.size
  have HOB : Hid (putE t' p' s' d' ys.length = 0 → mb = 20 + ys.length ∧ 20 + ys.length ≤ cb ∧ Bts w2 rb (putB t' p' s' d' ys)) := hOB
  have HOA2 : Hid (putE t p s d xs.length = 0 → ma = 20 + xs.length ∧ 20 + xs.length ≤ ca ∧ Bts w2 ra (putB t p s d xs)) := fun h => ⟨(HOA.out h).1, (HOA.out h).2.1, (HOA.out h).2.2.below hb2⟩
  clear hb2 hOB HX1 HY1 HB1 HOA
  by_cases ka : putE t p s d xs.length = 0
  rotate_left
  · have k0 : (putE t p s d xs.length != 0) = true := by simp [ka]
    clear HOA2 HOB
    generalize putE t p s d xs.length = k at *
    go_wp2_with fail
    refine (num_any _ _).mono ?_
    rintro e w' ⟨rfl, rfl⟩
    go_wp2_with fail
    refine (awake_any _).mono ?_
    rintro e w4 ⟨rfl, hb4⟩
    have HB4 : Hid (Below w.heap.size w w4) := below_more HB2.out hb4 HB2.out.size
    clear hb4
    go_wp2
    go_ret
    exact ⟨rfl, HB4.out⟩
  by_cases kb : putE t' p' s' d' ys.length = 0
  rotate_left
  · have k0 : (putE t' p' s' d' ys.length != 0) = true := by simp [kb]
    clear HOA2 HOB
    rw [ka]
    generalize putE t' p' s' d' ys.length = k at *
    clear ka
    go_wp2_with fail
    refine (num_any _ _).mono ?_
    rintro e w' ⟨rfl, rfl⟩
    go_wp2_with fail
    refine (num_any _ _).mono ?_
    rintro e w' ⟨rfl, rfl⟩
    go_wp2_with fail
    refine (awake_any _).mono ?_
    rintro e w4 ⟨rfl, hb4⟩
    have HB4 : Hid (Below w.heap.size w w4) := below_more HB2.out hb4 HB2.out.size
    clear hb4
    go_wp2
    go_ret
    exact ⟨rfl, HB4.out⟩
  obtain ⟨rfl, hca, hBA⟩ := HOA2.out ka
  obtain ⟨rfl, hcb, hBB⟩ := HOB.out kb
  have okA := (putE_zero ka).1
  have okC := (putE_zero kb).1
  have hget := get_any ra (20 + xs.length) ca (putB t p s d xs) w2 putB_length.symm hBA (putB_bd HZX.out) hca (HE.out.below HB2.out (Nat.le_refl _))
  have hge := putB_ok (xs := xs) okA (by omega)
  rw [ka, kb]
  have HBA : Hid (Bts w2 ra (putB t p s d xs)) := hBA
  have HBB : Hid (Bts w2 rb (putB t' p' s' d' ys)) := hBB
  have HOKA : Hid (okB t p s d = true) := okA
  have HOKB : Hid (okB t' p' s' d' = true) := okC
  clear HOA2 HOB ka kb hBA hBB okA okC
  go_wp2_with fail
  refine (num_any _ _).mono ?_
  rintro e w' ⟨rfl, rfl⟩
  go_wp2_with fail
  refine (num_any _ _).mono ?_
  rintro e w' ⟨rfl, rfl⟩
  go_wp2_with fail
  refine hget.mono ?_
  rintro e w3 ⟨hG, hb3⟩
  clear hget
  rcases hG with ⟨_, a', cp', rfl, hA, hnA, hcA⟩ | ⟨h0, _⟩
  rotate_left
  · exact absurd hge h0
  rw [putB_T HOKA.out, putB_P HOKA.out, putB_S HOKA.out, putB_A HOKA.out]
  rw [putB_drop] at hA
  rw [show 20 + xs.length - 20 = xs.length by omega]
  go_upto_region 8 with fail
  have hbV := hb3.alloc hb3.size (.cells #[.int .i64 t, .int .i64 p, .int .i64 s, .int .i64 d, .slice a' xs.length cp'] 24)
  have XC : Box (w3.alloc (.cells #[.int .i64 t, .int .i64 p, .int .i64 s, .int .i64 d, .slice a' xs.length cp'] 24)) w3.heap.size t p s d (.slice a' xs.length cp') := box_new _ _ _ _ _ _
  have XA := HX2.out.below hbV HX2.out.lt
  have XB := HY2.out.below hbV HY2.out.lt
  have bA := HBX.out.below (below_more HB2.out hbV HB2.out.size)
  have bB := HBY.out.below (below_more HB2.out hbV HB2.out.size)
  have bC := hA.below (below_new' w3 (.cells #[.int .i64 t, .int .i64 p, .int .i64 s, .int .i64 d, .slice a' xs.length cp'] 24))
  have bX := HBA.out.below hbV
  have bY := HBB.out.below hbV
  have HBV : Hid (Below w.heap.size w (w3.alloc (.cells #[.int .i64 t, .int .i64 p, .int .i64 s, .int .i64 d, .slice a' xs.length cp'] 24))) := below_more HB2.out hbV HB2.out.size
  clear hbV hA hb3 HX2 HY2 HB2 HBA HBB
  generalize w3.alloc (.cells #[.int .i64 t, .int .i64 p, .int .i64 s, .int .i64 d, .slice a' xs.length cp'] 24) = V at *
  have zX : AreBytes (putB t p s d xs) := putB_bd HZX.out
  have zY : AreBytes (putB t' p' s' d' ys) := putB_bd HZY.out
  obtain ⟨q, hq⟩ : ∃ q, sameB t p s d xs t' p' s' d' ys = q := ⟨_, rfl⟩
  have hqs : ((strOf (putB t p s d xs)).toList == (strOf (putB t' p' s' d' ys)).toList) = q := by
    rw [strOf_eq _ _ zX zY, ← hq]
    exact decide_eq_decide.2 ⟨fun e => putB_inj HOKA.out HOKB.out e, fun ⟨e1, e2, e3, e4, e5⟩ => by rw [e1, e2, e3, e4, e5]⟩
  have cX : ∀ X, Below V.heap.size V X → Sem.run Tryd.prog (convert 22 9 (.slice ra (20 + xs.length) ca)) X = .ok (.string (strOf (putB t p s d xs))) X := fun X hX => conv_bts X ra _ ca _ putB_length.symm (bX.below hX) zX
  have cY : ∀ X, Below V.heap.size V X → Sem.run Tryd.prog (convert 22 9 (.slice rb (20 + ys.length) cb)) X = .ok (.string (strOf (putB t' p' s' d' ys))) X := fun X hX => conv_bts X rb _ cb _ putB_length.symm (bY.below hX) zY
  have FS : ∀ (X : World), Below V.heap.size V X → ∀ (D E : Value) (r : Bool), ((D = .agg #[.int .i64 t, .int .i64 p, .int .i64 s, .int .i64 d, .slice a' xs.length cp'] ∧ E = .agg #[.int .i64 t, .int .i64 p, .int .i64 s, .int .i64 d, .slice a xs.length cp] ∧ r = true) ∨ (D = .agg #[.int .i64 t, .int .i64 p, .int .i64 s, .int .i64 d, .slice a xs.length cp] ∧ E = .agg #[.int .i64 t', .int .i64 p', .int .i64 s', .int .i64 d', .slice b ys.length cq] ∧ r = q)) →
      Calls Tryd.prog 14 #[D, E] X fun e w' => e = .returned (.bool r) ∧ Hid (Below V.heap.size V w') := by
    rintro X hX D E r (⟨rfl, rfl, rfl⟩ | ⟨rfl, rfl, rfl⟩)
    · refine (same_any t p s d t p s d a' a _ _ cp' cp xs xs X rfl rfl (bC.below hX) (bA.below hX) HZX.out HZX.out).mono ?_
      rintro e w' ⟨rfl, hb⟩
      exact ⟨ret_bool (by simp [sameB]), hX.trans (hb.mono hX.size)⟩
    · refine (same_any t p s d t' p' s' d' a b _ _ cp cq xs ys X rfl rfl (bA.below hX) (bB.below hX) HZX.out HZY.out).mono ?_
      rintro e w' ⟨rfl, hb⟩
      exact ⟨ret_bool hq, hX.trans (hb.mono hX.size)⟩
  have FA : ∀ (X : World), Below V.heap.size V X → Calls Tryd.prog 8 #[] X fun e w' => e = .returned (.bool true) ∧ Hid (Below V.heap.size V w') := by
    intro X hX
    refine (awake_any X).mono ?_
    rintro e w' ⟨rfl, hb⟩
    exact ⟨rfl, hX.trans (hb.mono hX.size)⟩
  generalize strOf (putB t p s d xs) = s1 at *
  generalize strOf (putB t' p' s' d' ys) = s2 at *
  have keepS : Hid (∀ X, Below V.heap.size V X → X.cell? ⟨w3.heap.size, 0, none⟩ = some (.int .i64 t) ∧ X.cell? ⟨w3.heap.size, 1, none⟩ = some (.int .i64 p) ∧ X.cell? ⟨w3.heap.size, 2, none⟩ = some (.int .i64 s) ∧ X.cell? ⟨w3.heap.size, 3, none⟩ = some (.int .i64 d) ∧ X.cell? ⟨w3.heap.size, 4, none⟩ = some (.slice a' xs.length cp') ∧ X.cell? ⟨w.heap.size, 0, none⟩ = some (.int .i64 t) ∧ X.cell? ⟨w.heap.size, 1, none⟩ = some (.int .i64 p) ∧ X.cell? ⟨w.heap.size, 2, none⟩ = some (.int .i64 s) ∧ X.cell? ⟨w.heap.size, 3, none⟩ = some (.int .i64 d) ∧ X.cell? ⟨w.heap.size, 4, none⟩ = some (.slice a xs.length cp) ∧ X.cell? ⟨w.heap.size + 1, 0, none⟩ = some (.int .i64 t') ∧ X.cell? ⟨w.heap.size + 1, 1, none⟩ = some (.int .i64 p') ∧ X.cell? ⟨w.heap.size + 1, 2, none⟩ = some (.int .i64 s') ∧ X.cell? ⟨w.heap.size + 1, 3, none⟩ = some (.int .i64 d') ∧ X.cell? ⟨w.heap.size + 1, 4, none⟩ = some (.slice b ys.length cq) ∧ Sem.run Tryd.prog (convert 22 9 (.slice ra (20 + xs.length) ca)) X = .ok (.string s1) X ∧ Sem.run Tryd.prog (convert 22 9 (.slice rb (20 + ys.length) cb)) X = .ok (.string s2) X ∧ Hid (Below V.heap.size V X)) := fun X hX => by
    obtain ⟨u0, u1, u2, u3, u4⟩ := XC.below hX XC.lt
    obtain ⟨v0, v1, v2, v3, v4⟩ := XA.below hX XA.lt
    obtain ⟨w0, w1, w2, w3, w4⟩ := XB.below hX XB.lt
    exact ⟨u0, u1, u2, u3, u4, v0, v1, v2, v3, v4, w0, w1, w2, w3, w4, cX X hX, cY X hX, hX⟩
  have HFS : Hid (∀ (X : World), Below V.heap.size V X → ∀ (D E : Value) (r : Bool), ((D = .agg #[.int .i64 t, .int .i64 p, .int .i64 s, .int .i64 d, .slice a' xs.length cp'] ∧ E = .agg #[.int .i64 t, .int .i64 p, .int .i64 s, .int .i64 d, .slice a xs.length cp] ∧ r = true) ∨ (D = .agg #[.int .i64 t, .int .i64 p, .int .i64 s, .int .i64 d, .slice a xs.length cp] ∧ E = .agg #[.int .i64 t', .int .i64 p', .int .i64 s', .int .i64 d', .slice b ys.length cq] ∧ r = q)) →
      Calls Tryd.prog 14 #[D, E] X fun e w' => e = .returned (.bool r) ∧ Hid (Below V.heap.size V w')) := FS
  have hwb : ((20 : Int) + (xs.length : Int) == IntKind.i64.wrap (20 + (xs.length : Int))) = true := by rw [IntKind.wrap_i64, beq_iff_eq]; omega
  have hVd : Hid (Below V.heap.size V V.drew) := (Below.refl _ _).drew
  clear FS cX cY zX zY hq bA bB bC bX bY XA XB XC hge
  go_region_held3 (fun X => X.cell? ⟨w3.heap.size, 0, none⟩ = some (.int .i64 t) ∧ X.cell? ⟨w3.heap.size, 1, none⟩ = some (.int .i64 p) ∧ X.cell? ⟨w3.heap.size, 2, none⟩ = some (.int .i64 s) ∧ X.cell? ⟨w3.heap.size, 3, none⟩ = some (.int .i64 d) ∧ X.cell? ⟨w3.heap.size, 4, none⟩ = some (.slice a' xs.length cp') ∧ X.cell? ⟨w.heap.size, 0, none⟩ = some (.int .i64 t) ∧ X.cell? ⟨w.heap.size, 1, none⟩ = some (.int .i64 p) ∧ X.cell? ⟨w.heap.size, 2, none⟩ = some (.int .i64 s) ∧ X.cell? ⟨w.heap.size, 3, none⟩ = some (.int .i64 d) ∧ X.cell? ⟨w.heap.size, 4, none⟩ = some (.slice a xs.length cp) ∧ X.cell? ⟨w.heap.size + 1, 0, none⟩ = some (.int .i64 t') ∧ X.cell? ⟨w.heap.size + 1, 1, none⟩ = some (.int .i64 p') ∧ X.cell? ⟨w.heap.size + 1, 2, none⟩ = some (.int .i64 s') ∧ X.cell? ⟨w.heap.size + 1, 3, none⟩ = some (.int .i64 d') ∧ X.cell? ⟨w.heap.size + 1, 4, none⟩ = some (.slice b ys.length cq) ∧ Sem.run Tryd.prog (convert 22 9 (.slice ra (20 + xs.length) ca)) X = .ok (.string s1) X ∧ Sem.run Tryd.prog (convert 22 9 (.slice rb (20 + ys.length) cb)) X = .ok (.string s2) X ∧ Hid (Below V.heap.size V X)) ((refine keepS.out _ ?_; exact Hid.out (by assumption)))
    (first | (go_at_call 13; refine (num_any _ _).mono ?_; rintro e w' ⟨rfl, rfl⟩) | (go_at_call 8; refine (FA _ (by go_split_ands; exact Hid.out (by assumption))).mono ?_; rintro e w' ⟨rfl, hk⟩) | (go_at_call 14; refine (HFS.out _ (by go_split_ands; exact Hid.out (by assumption)) _ _ true ?hp).mono ?_; (case hp => (with_reducible exact .inl ⟨rfl, rfl, rfl⟩)); rintro e w' ⟨rfl, hk⟩) | (go_at_call 14; refine (HFS.out _ (by go_split_ands; exact Hid.out (by assumption)) _ _ q ?hp).mono ?_; (case hp => (with_reducible exact .inr ⟨rfl, rfl, rfl⟩)); rintro e w' ⟨rfl, hk⟩) | fail)
  rename_i hH
  have HR : Hid (Below w.heap.size w w') := below_more HBV.out hk.out HBV.out.size
  clear hH hk keepS HFS FA
  go_wp2
  go_ret
  exact ⟨rfl, HR.out⟩
end Go.Proofs.YtknpgpmckabmbaaDoor
