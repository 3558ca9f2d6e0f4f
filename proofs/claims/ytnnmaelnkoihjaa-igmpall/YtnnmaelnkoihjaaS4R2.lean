/- The document's way to put a message that may be put. -/
import Derived.Test.YtnnmaelnkoihjaaS4R1
namespace Go.Proofs.Ytnnmaelnkoihjaa
open Go.RowKit

theorem putE_ways {k t g : Int} (h : putE k t g = 0) : (k = 1 ∧ multiB g = true) ∨ (k = 1 ∧ multiB g = false ∧ g = 0) ∨ (k ≠ 1 ∧ t = 0 ∧ multiB g = true) := by
  have hz := putE_zero h
  have ha : argB k t g = true := by
    rcases Bool.eq_false_or_eq_true (argB k t g) with h' | h'
    · exact h'
    · rw [putE_arg hz.1 hz.2.1 h'] at h; cases h
  by_cases hk : k = 1
  · subst hk
    rw [argB_one hz.2.2.1 hz.2.2.2.1] at ha
    cases hm : multiB g with
    | true => exact .inl ⟨rfl, rfl⟩
    | false => rw [hm] at ha; exact .inr (.inl ⟨rfl, rfl, by simpa using ha⟩)
  · rw [argB_not hk] at ha
    exact .inr (.inr ⟨hk, by simpa using ha⟩)
theorem keep_msg2 {w W W' : World} {k t g : Int} (h : W.cell? ⟨w.heap.size, 0, none⟩ = some (.int .i64 k) ∧ W.cell? ⟨w.heap.size, 1, none⟩ = some (.int .i64 t) ∧ W.cell? ⟨w.heap.size, 2, none⟩ = some (.int .i64 g) ∧ Hid (Below w.heap.size w W)) (hb : Below W.heap.size W W') :
    W'.cell? ⟨w.heap.size, 0, none⟩ = some (.int .i64 k) ∧ W'.cell? ⟨w.heap.size, 1, none⟩ = some (.int .i64 t) ∧ W'.cell? ⟨w.heap.size, 2, none⟩ = some (.int .i64 g) ∧ Hid (Below w.heap.size w W') := by
  obtain ⟨h0, h1, h2, h3⟩ := h
  have := (⟨h0, h1, h2⟩ : Msg W w.heap.size k t g).below hb (⟨h0, h1, h2⟩ : Msg W w.heap.size k t g).lt
  exact ⟨this.k0, this.t0, this.g0, below_more h3.out hb h3.out.size⟩

theorem cell_lt' {w : World} {b i : Nat} {v : Value} (h : w.cell? ⟨b, i, none⟩ = some v) : b < w.heap.size := by
  rcases Nat.lt_or_ge b w.heap.size with h' | h'
  · exact h'
  · simp [World.cell?, Array.getElem?_eq_none h'] at h
set_option maxHeartbeats 3200000 in
theorem rput_good (k t g : Int) (w : World) (h0 : putE k t g = 0) :
    Calls Try.prog 9 #[.agg #[.int .i64 k, .int .i64 t, .int .i64 g]] w fun e w' =>
      ∃ b cap, e = .returned (.tuple #[.slice (some ⟨b, 0, none⟩) 8 cap, .int .i64 0]) ∧ Owns w' w.heap.size b cap (layZ (codeZ k) t g) ∧ Below w.heap.size w w' := by
  obtain ⟨k1, k4, t1, t2, g1, g2⟩ := putE_zero h0
  have hways := putE_ways h0
  have HK := rkinds_any k k1 k4
  have hcode := codeZ_bd k
  have hB0 : Below w.heap.size w (w.alloc (.cells #[.int .i64 k, .int .i64 t, .int .i64 g] 23)) := below_new' _ _
  have hM0 := msg_new w k t g
  have HB0 : Hid (Below w.heap.size w (w.alloc (.cells #[.int .i64 k, .int .i64 t, .int .i64 g] 23))) := hB0
  have HM0 : Hid (Msg (w.alloc (.cells #[.int .i64 k, .int .i64 t, .int .i64 g] 23)) w.heap.size k t g) := hM0
  clear hB0 hM0 h0
  obtain ⟨m, hm⟩ : ∃ m, multiB g = m := ⟨_, rfl⟩
  have HMul := fun X => rmulti_any g X
  rw [hm] at hways HMul
  have hways2 : ((k != 1) = false ∧ m = true) ∨ ((k != 1) = false ∧ m = false ∧ (g != 0) = false) ∨ ((k != 1) = true ∧ (t != 0) = false ∧ m = true) := by
    rcases hways with ⟨a, b⟩ | ⟨a, b, c⟩ | ⟨a, b, c⟩
    · exact .inl ⟨by simp [a], b⟩
    · exact .inr (.inl ⟨by simp [a], b, by simp [c]⟩)
    · exact .inr (.inr ⟨by simp [a], by simp [b], c⟩)
  have wt : IntKind.u8.wrap t = t % 256 := wrap_u8_mod t
  have HLC : Hid (layC (codeZ k) t g 0 = codeZ k :: t % 256 :: 0 :: 0 :: be4 g) := by
    show _ = _
    unfold layC
    rw [show codeZ k % 256 = codeZ k by omega]; rfl
  have HLZ : Hid (∀ s : Int, inetZ (layC (codeZ k) t g 0) = s → ((codeZ k :: t % 256 :: 0 :: 0 :: be4 g).set 2 (s / 256)).set 3 (s % 256) = layZ (codeZ k) t g) := by
    intro s hs
    have hb := inetZ_bd (layC (codeZ k) t g 0)
    unfold layZ
    rw [hs]
    rw [hs] at hb
    unfold layC
    rw [show codeZ k % 256 = codeZ k by omega, show be2 s = [s / 256, s % 256] by unfold be2; rw [show s / 256 % 256 = s / 256 by omega]]; rfl
  have HIB : Hid (AreBytes (layC (codeZ k) t g 0)) := layC_bd _ _ _ _
  have hsb := inetZ_bd (layC (codeZ k) t g 0)
  obtain ⟨s, hs⟩ : ∃ s, inetZ (layC (codeZ k) t g 0) = s := ⟨_, rfl⟩
  rw [hs] at hsb
  have HS : Hid (inetZ (layC (codeZ k) t g 0) = s) := hs
  generalize layZ (codeZ k) t g = lz at *
  generalize layC (codeZ k) t g 0 = lc at *
  generalize codeZ k = c at *
  clear hways hm hs
  rcases hways2 with ⟨q1, rfl⟩ | ⟨q1, rfl, q2⟩ | ⟨q1, q2, rfl⟩
  all_goals
    go_enter Try.func9, Try.ntmps9
    go_wp2_with fail
    refine (HMul _).mono ?_
    rintro e w' ⟨rfl, rfl⟩
    clear HMul
    go_upto_region 5 with fail
    generalize w.alloc (.cells #[.int .i64 k, .int .i64 t, .int .i64 g] 23) = W at *
    obtain ⟨x0, x1, x2⟩ := id HM0.out
    have hS0 : W.drew.cell? ⟨w.heap.size, 0, none⟩ = some (.int .i64 k) ∧ W.drew.cell? ⟨w.heap.size, 1, none⟩ = some (.int .i64 t) ∧ W.drew.cell? ⟨w.heap.size, 2, none⟩ = some (.int .i64 g) ∧ Hid (Below w.heap.size w W.drew) := ⟨x0, x1, x2, HB0.out.drew⟩
    go_region_held3 (fun X => X.cell? ⟨w.heap.size, 0, none⟩ = some (.int .i64 k) ∧ X.cell? ⟨w.heap.size, 1, none⟩ = some (.int .i64 t) ∧ X.cell? ⟨w.heap.size, 2, none⟩ = some (.int .i64 g) ∧ Hid (Below w.heap.size w X)) (with_reducible first | exact hS0 | assumption | exact keep_msg2 hS0 hk | (refine keep_msg2 ?_ hk; assumption) | (refine keep_msg2 ?_ (below_new' _ _); assumption))
      (first | (go_at_call 17; refine (HK _).mono ?_; rintro e w' ⟨rfl, hk⟩) | fail)
    have hH := keep_msg2 hS0 hk
    have HO : Hid (Owns (w'.alloc (.cells #[.int .u8 c, .int .u8 (t % 256), .int .u8 0, .int .u8 0] 5)) w'.heap.size w'.heap.size 4 [c, t % 256, 0, 0]) := owns_four _ _ _ _ _
    have hlt : w.heap.size < w'.heap.size := cell_lt' hH.1
    have HM : Hid (Msg (w'.alloc (.cells #[.int .u8 c, .int .u8 (t % 256), .int .u8 0, .int .u8 0] 5)) w.heap.size k t g) := (⟨hH.1, hH.2.1, hH.2.2.1⟩ : Msg w' w.heap.size k t g).below (below_new' _ _) hlt
    have HB : Hid (Below w.heap.size w (w'.alloc (.cells #[.int .u8 c, .int .u8 (t % 256), .int .u8 0, .int .u8 0] 5))) := hH.2.2.2.out.alloc (Nat.le_of_lt hlt) _
    clear hH hk HK HB0 HM0 x0 x1 x2 hS0
    generalize w'.alloc (.cells #[.int .u8 c, .int .u8 (t % 256), .int .u8 0, .int .u8 0] 5) = V at *
    generalize w'.heap.size = N at *
    obtain ⟨x0, x1, x2⟩ := id HM.out
    go_wp2_with fail
    refine (four_any g _).mono ?_
    rintro e v1 ⟨rfl, hbt, hb1⟩
    have ho1 := HO.out.belowN hb1 (Nat.le_refl _)
    have hB1 := below_more HB.out hb1 HB.out.size
    clear x0 x1 x2 hb1 HO HM HB
    go_wp2_with (at_builtin; go_must (refine wp_append_bytes _ rfl _ _ rfl N _ _ _ _ rfl rfl ho1 _ _ _ rfl (be4 g) rfl hbt (by simp) (by simp [be4]) ho1.more ?_))
    intro g2 cp2 v2 ho2 hg2
    have hk2 := grown_below ho1 hg2
    have hB2 := hB1.trans (hk2.mono (Nat.le_of_lt hlt))
    rw [← HLC.out] at ho2
    have hin := rinet_at (some ⟨g2, 0, none⟩) 8 cp2 lc v2 (by rw [HLC.out]; rfl) ho2.bts HIB.out (by rw [HLC.out]; simp [be4])
    rw [HS.out] at hin
    have hcap : (8 : Int) ≤ (cp2 : Int) := by have := ho2.cap; rw [HLC.out] at this; simp [be4] at this; omega
    have HO2 : Hid (Owns v2 N g2 cp2 lc) := ho2
    have HB2 : Hid (Below w.heap.size w v2) := hB2
    have f2 := ho2.frozen 2
    have c2 := ho2.cell 2 (by rw [HLC.out]; simp [be4])
    clear hk2 ho1 ho2 hg2 hbt hB1 hB2
    go_wp2_with fail
    refine hin.mono ?_
    rintro e v3 ⟨rfl, rfl⟩
    clear hin
    go_upto_region 9 with fail
    have ho3 := HO2.out.stored 2 (s / 256)
    have hb3 : Below w.heap.size w (v3.setCell ⟨g2, 2, none⟩ (.int .u8 (s / 256))) := HB2.out.setCell (p := ⟨g2, 2, none⟩) (by have := HO2.out.lt.1; show _ ≤ g2; omega) _
    have HO3 : Hid (Owns (v3.setCell ⟨g2, 2, none⟩ (.int .u8 (s / 256))) N g2 cp2 (lc.set 2 (s / 256))) := ho3
    have HB3 : Hid (Below w.heap.size w (v3.setCell ⟨g2, 2, none⟩ (.int .u8 (s / 256)))) := hb3
    have f3 := ho3.frozen 3
    have c3 := ho3.cell 3 (by rw [HLC.out]; simp [be4])
    clear ho3 hb3 HO2 HB2 f2 c2
    generalize v3.setCell ⟨g2, 2, none⟩ (.int .u8 (s / 256)) = V3 at *
    go_upto_region 10 with fail
    have ho4 := HO3.out.stored 3 (s % 256)
    have hb4 : Below w.heap.size w (V3.setCell ⟨g2, 3, none⟩ (.int .u8 (s % 256))) := HB3.out.setCell (p := ⟨g2, 3, none⟩) (by have := HO3.out.lt.1; show _ ≤ g2; omega) _
    rw [HLC.out, HLZ.out s HS.out] at ho4
    have HR : Hid (Owns (V3.setCell ⟨g2, 3, none⟩ (.int .u8 (s % 256))) w.heap.size g2 cp2 lz ∧ Below w.heap.size w (V3.setCell ⟨g2, 3, none⟩ (.int .u8 (s % 256)))) := ⟨ho4.base (Nat.le_of_lt hlt), hb4⟩
    clear ho4 hb4 HO3 HB3 f3 c3
    generalize V3.setCell ⟨g2, 3, none⟩ (.int .u8 (s % 256)) = V4 at *
    go_wp2
    go_ret2
    exact ⟨_, _, rfl, HR.out⟩
end Go.Proofs.Ytnnmaelnkoihjaa
