/- The document's datagram: its bytes, and what is told of them. -/
import Derived.Test.YtknpgpmckabmbaaDoorS3W5
namespace Go.Proofs.YtknpgpmckabmbaaDoor
open Go.RowKit

theorem bts_four (W : World) (a b c d : Int) : Bts (W.alloc (.cells #[.int .u8 a, .int .u8 b, .int .u8 c, .int .u8 d] 5)) (some ⟨W.heap.size, 0, none⟩) [a, b, c, d] :=
  .inr ⟨_, 0, rfl, fun i hi => by
    have : i = 0 ∨ i = 1 ∨ i = 2 ∨ i = 3 := by simp at hi; omega
    rcases this with rfl | rfl | rfl | rfl <;> simp⟩
theorem bts_six (W : World) (a b c d e f : Int) : Bts (W.alloc (.cells #[.int .u8 a, .int .u8 b, .int .u8 c, .int .u8 d, .int .u8 e, .int .u8 f] 5)) (some ⟨W.heap.size, 0, none⟩) [a, b, c, d, e, f] :=
  .inr ⟨_, 0, rfl, fun i hi => by
    have : i = 0 ∨ i = 1 ∨ i = 2 ∨ i = 3 ∨ i = 4 ∨ i = 5 := by simp at hi; omega
    rcases this with rfl | rfl | rfl | rfl | rfl | rfl <;> simp⟩
theorem two_any (n : Int) (w : World) : Calls Tryd.prog 29 #[.int .i64 n] w fun e w' => e = .returned (.slice (some ⟨w.heap.size, 0, none⟩) 2 2) ∧ Bts w' (some ⟨w.heap.size, 0, none⟩) (be2 n) ∧ Below w.heap.size w w' := by
  go_enter Tryd.func29, Tryd.ntmps29
  go_wp2
  go_ret
  exact ⟨rfl, bts_two _ _ _, (Below.refl _ _).alloc (Nat.le_refl _) _⟩
theorem four_any (n : Int) (w : World) : Calls Tryd.prog 30 #[.int .i64 n] w fun e w' => e = .returned (.slice (some ⟨w.heap.size, 0, none⟩) 4 4) ∧ Bts w' (some ⟨w.heap.size, 0, none⟩) (be4 n) ∧ Below w.heap.size w w' := by
  go_enter Tryd.func30, Tryd.ntmps30
  go_wp2
  go_ret
  exact ⟨rfl, bts_four _ _ _ _ _, (Below.refl _ _).alloc (Nat.le_refl _) _⟩

set_option maxHeartbeats 1600000 in
theorem rip_any (t p s d c : Int) (a : Option Addr) (n cp : Nat) (xs : List Int) (w : World) (hm : n = xs.length) (hB : Bts w a xs) (hnil : a = none → cp = 0) (hn : n ≤ 70368744177664) :
    Calls Tryd.prog 19 #[.agg #[.int .i64 t, .int .i64 p, .int .i64 s, .int .i64 d, .slice a n cp], .int .i64 c] w fun e w' =>
      ∃ g cap, e = .returned (.slice (some ⟨g, 0, none⟩) (20 + n) cap) ∧ Owns w' w.heap.size g cap (headZ t p s d n c ++ xs) ∧ Below w.heap.size w w' := by
  have HM : Hid (n = xs.length) := hm
  have HN : Hid (a = none → cp = 0) := hnil
  have HBt : Hid (Bts w a xs) := hB
  clear hm hnil hB
  go_enter Tryd.func19, Tryd.ntmps19
  go_upto_region 2 with fail
  have HX := (box_new w t p s d (.slice a n cp)).below ((Below.refl (w.heap.size + 1) _).alloc (by simp) (.cells #[.int .u8 69, .int .u8 0] 5)) (by omega)
  have HO : Hid (Owns ((w.alloc (.cells #[.int .i64 t, .int .i64 p, .int .i64 s, .int .i64 d, .slice a n cp] 24)).alloc (.cells #[.int .u8 69, .int .u8 0] 5)) (w.heap.size + 1) (w.heap.size + 1) 2 [69, 0]) := owns_two' _ _ (by simp) 69 0
  have HB : Hid (Below w.heap.size w _) := ((Below.refl w.heap.size w).alloc (Nat.le_refl _) (.cells #[.int .i64 t, .int .i64 p, .int .i64 s, .int .i64 d, .slice a n cp] 24)).alloc (by simp) (.cells #[.int .u8 69, .int .u8 0] 5)
  generalize (w.alloc (.cells #[.int .i64 t, .int .i64 p, .int .i64 s, .int .i64 d, .slice a n cp] 24)).alloc (.cells #[.int .u8 69, .int .u8 0] 5) = W at *
  obtain ⟨x0, x1, x2, x3, x4⟩ := id HX
  have KX : Hid (Box W w.heap.size t p s d (.slice a n cp)) := HX
  clear HX
  go_wp2_with fail
  refine (two_any _ _).mono ?_
  rintro e v1 ⟨rfl, hbt, hb1⟩
  have ho1 := HO.out.belowN hb1 (Nat.le_refl _)
  have hv1 := KX.out.below hb1 (by have := HO.out.more; omega)
  have hB1 := below_more HB.out hb1 (by have := HO.out.more; omega)
  clear x0 x1 x2 x3 x4 hb1 HO KX HB
  go_wp2_with (at_builtin; go_must (refine wp_append_bytes _ rfl _ _ rfl (w.heap.size + 1) _ _ _ _ rfl rfl ho1 _ _ _ rfl (be2 (20 + n)) rfl hbt (by simp) (by simp [be2]) ho1.more ?_))
  intro g2 cp2 v2 ho2 hg2
  have hk2 := grown_below ho1 hg2
  have hv2 := hv1.below hk2 (by omega)
  have hB2 := hB1.trans (hk2.mono (by omega))
  have HO : Hid (Owns v2 (w.heap.size + 1) g2 cp2 _) := ho2
  have KX : Hid (Box v2 w.heap.size t p s d (.slice a n cp)) := hv2
  have HB : Hid (Below w.heap.size w v2) := hB2
  clear hk2 hv1 hB1 hB2 ho1 ho2 hg2 hbt
  obtain ⟨x0, x1, x2, x3, x4⟩ := hv2
  go_wp2_with (at_builtin; go_must (refine wp_append_bytes _ rfl _ _ rfl (w.heap.size + 1) g2 cp2 _ _ rfl rfl (HO.out.alloc _) _ _ _ rfl [0, 0, 0, 0, t % 256, p % 256] rfl (bts_six _ _ _ _ _ _ _) (by simp) (by simp [be2]) (by have := HO.out.more; simp; omega) ?_))
  intro g3 cp3 v3 ho3 hg3
  have hb3 : Below (w.heap.size + 1) v2 v3 := ((Below.refl _ _).alloc HO.out.more _).grown hg3 (by have := HO.out.more; simp; omega) (fun j hj => by cases hj; exact HO.out.lt.1)
  replace KX : Hid (Box v3 w.heap.size t p s d (.slice a n cp)) := KX.out.below hb3 (by omega)
  replace HO : Hid (Owns v3 (w.heap.size + 1) g3 cp3 _) := ho3
  replace HB : Hid (Below w.heap.size w v3) := HB.out.trans (hb3.mono (by omega))
  clear x0 x1 x2 x3 x4 ho3 hb3 hg3
  obtain ⟨x0, x1, x2, x3, x4⟩ := id KX.out
  go_wp2_with fail
  refine (two_any _ _).mono ?_
  rintro e v4 ⟨rfl, hbt, hb1⟩
  have ho1 := HO.out.belowN hb1 (Nat.le_refl _)
  have hv1 := KX.out.below hb1 (by have := HO.out.more; omega)
  have hB1 := below_more HB.out hb1 (by have := HO.out.more; omega)
  clear x0 x1 x2 x3 x4 hb1 HO KX HB
  go_wp2_with (at_builtin; go_must (refine wp_append_bytes _ rfl _ _ rfl (w.heap.size + 1) _ _ _ _ rfl rfl ho1 _ _ _ rfl (be2 c) rfl hbt (by simp) (by simp [be2]) ho1.more ?_))
  intro g5 cp5 v5 ho2 hg2
  have hk2 := grown_below ho1 hg2
  have hv2 := hv1.below hk2 (by omega)
  have hB2 := hB1.trans (hk2.mono (by omega))
  have HO : Hid (Owns v5 (w.heap.size + 1) g5 cp5 _) := ho2
  have KX : Hid (Box v5 w.heap.size t p s d (.slice a n cp)) := hv2
  have HB : Hid (Below w.heap.size w v5) := hB2
  clear hk2 hv1 hB1 hB2 ho1 ho2 hg2 hbt
  obtain ⟨x0, x1, x2, x3, x4⟩ := hv2
  go_wp2_with fail
  refine (four_any _ _).mono ?_
  rintro e v6 ⟨rfl, hbt, hb1⟩
  have ho1 := HO.out.belowN hb1 (Nat.le_refl _)
  have hv1 := KX.out.below hb1 (by have := HO.out.more; omega)
  have hB1 := below_more HB.out hb1 (by have := HO.out.more; omega)
  clear x0 x1 x2 x3 x4 hb1 HO KX HB
  go_wp2_with (at_builtin; go_must (refine wp_append_bytes _ rfl _ _ rfl (w.heap.size + 1) _ _ _ _ rfl rfl ho1 _ _ _ rfl (be4 s) rfl hbt (by simp) (by simp [be2, be4]) ho1.more ?_))
  intro g7 cp7 v7 ho2 hg2
  have hk2 := grown_below ho1 hg2
  have hv2 := hv1.below hk2 (by omega)
  have hB2 := hB1.trans (hk2.mono (by omega))
  have HO : Hid (Owns v7 (w.heap.size + 1) g7 cp7 _) := ho2
  have KX : Hid (Box v7 w.heap.size t p s d (.slice a n cp)) := hv2
  have HB : Hid (Below w.heap.size w v7) := hB2
  clear hk2 hv1 hB1 hB2 ho1 ho2 hg2 hbt
  obtain ⟨x0, x1, x2, x3, x4⟩ := hv2
  go_wp2_with fail
  refine (four_any _ _).mono ?_
  rintro e v8 ⟨rfl, hbt, hb1⟩
  have ho1 := HO.out.belowN hb1 (Nat.le_refl _)
  have hv1 := KX.out.below hb1 (by have := HO.out.more; omega)
  have hB1 := below_more HB.out hb1 (by have := HO.out.more; omega)
  clear x0 x1 x2 x3 x4 hb1 HO KX HB
  go_wp2_with (at_builtin; go_must (refine wp_append_bytes _ rfl _ _ rfl (w.heap.size + 1) _ _ _ _ rfl rfl ho1 _ _ _ rfl (be4 d) rfl hbt (by simp) (by simp [be2, be4]) ho1.more ?_))
  intro g9 cp9 v9 ho2 hg2
  have hk2 := grown_below ho1 hg2
  have hv2 := hv1.below hk2 (by omega)
  have hB2 := hB1.trans (hk2.mono (by omega))
  have HO : Hid (Owns v9 (w.heap.size + 1) g9 cp9 (headZ t p s d n c)) := ho2
  have HB : Hid (Below w.heap.size w v9) := hB2
  clear hk2 hv1 hB1 hB2 ho1 ho2 hg2 hbt
  obtain ⟨x0, x1, x2, x3, x4⟩ := hv2
  go_wp2_with (at_builtin; go_must (refine wp_append_bytes _ rfl _ _ rfl (w.heap.size + 1) g9 cp9 (headZ t p s d n c) _ rfl rfl HO.out _ _ _ rfl xs HM.out (HBt.out.below HB.out) HN.out (by have := HM.out; simp only [headZ_length]; omega) HO.out.more ?_))
  intro g10 cp10 v10 ho3 hg3
  have hb3 := grown_below HO.out hg3
  have HR : Hid (Owns v10 w.heap.size g10 cp10 (headZ t p s d n c ++ xs) ∧ Below w.heap.size w v10) := ⟨ho3.base (by omega), HB.out.trans (hb3.mono (by omega))⟩
  clear ho3 hg3 hb3 HO HB x0 x1 x2 x3 x4
  go_wp2
  go_ret
  exact ⟨_, _, rfl, HR.out⟩
end Go.Proofs.YtknpgpmckabmbaaDoor
