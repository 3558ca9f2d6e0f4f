/- The head of a datagram, and Put. -/
import Derived.Test.YtknpgpmckabmbaaDoorS3W2
import Derived.Deep.Cut
namespace Go.Proofs.YtknpgpmckabmbaaDoor
open Go.RowKit

theorem Owns.base {w : World} {base base' g cap : Nat} {zs : List Int} (h : Owns w base g cap zs) (hb : base' ≤ base) : Owns w base' g cap zs := by
  rcases h.2 with ⟨h', _⟩ | ⟨g', cap', cur, h', hbg, r⟩
  · cases h'
  · exact ⟨h.1, .inr ⟨g', cap', cur, h', by omega, r⟩⟩
theorem Owns.kept {w w' : World} {base base' g cap : Nat} {zs : List Int} (h : Owns w base g cap zs) (hb : Below base' w w') (hg : g < base') : Owns w' base g cap zs := by
  rcases h.2 with ⟨h', _⟩ | ⟨g', cap', cur, h', hbg, hh, r⟩
  · cases h'
  · have e : g' = g := by simp only [Value.slice.injEq, Option.some.injEq, Addr.mk.injEq] at h'; omega
    subst e
    exact ⟨h.1, .inr ⟨g', cap', cur, h', hbg, by rw [hb.block _ hg]; exact hh, r⟩⟩
/-- A datagram in a variable. -/
structure Box (w : World) (b : Nat) (t p s d : Int) (v : Value) : Prop where
  t0 : w.cell? ⟨b, 0, none⟩ = some (.int .i64 t)
  p0 : w.cell? ⟨b, 1, none⟩ = some (.int .i64 p)
  s0 : w.cell? ⟨b, 2, none⟩ = some (.int .i64 s)
  d0 : w.cell? ⟨b, 3, none⟩ = some (.int .i64 d)
  v0 : w.cell? ⟨b, 4, none⟩ = some v
theorem Box.below {w w' : World} {b N : Nat} {t p s d : Int} {v : Value} (h : Box w b t p s d v) (hb : Below N w w') (hN : b < N) : Box w' b t p s d v := by
  obtain ⟨h0, h1, h2, h3, h4⟩ := h
  exact ⟨by rw [hb.cell hN]; exact h0, by rw [hb.cell hN]; exact h1, by rw [hb.cell hN]; exact h2, by rw [hb.cell hN]; exact h3, by rw [hb.cell hN]; exact h4⟩
theorem box_new (w : World) (t p s d : Int) (v : Value) : Box (w.alloc (.cells #[.int .i64 t, .int .i64 p, .int .i64 s, .int .i64 d, v] 24)) w.heap.size t p s d v := by
  constructor <;> simp
theorem owns_two (w : World) (x y : Int) : Owns (w.alloc (.cells #[.int .u8 x, .int .u8 y] 5)) w.heap.size w.heap.size 2 [x, y] :=
  World.ownsRow_lit w #[.int .u8 x, .int .u8 y] 2 (Nat.le_refl _) (by decide) rfl
theorem owns_two' (w : World) (N : Nat) (hN : N = w.heap.size) (x y : Int) : Owns (w.alloc (.cells #[.int .u8 x, .int .u8 y] 5)) N N 2 [x, y] := by subst hN; exact owns_two w x y
theorem headZ_six (t p s d n c : Int) : [69, 0] ++ be2 (20 + n) ++ be4 0 ++ [t % 256, p % 256] ++ be2 c ++ be4 s ++ be4 d = headZ t p s d n c := rfl
theorem Owns.more {w : World} {base g cap : Nat} {zs : List Int} (h : Owns w base g cap zs) : base ≤ w.heap.size := by have := h.lt; omega

set_option maxHeartbeats 1600000 in
theorem headWith_any (t p s d c : Int) (a : Option Addr) (n cp : Nat) (w : World) (hn : n ≤ 70368744177664) :
    Calls Tryd.prog 27 #[.agg #[.int .i64 t, .int .i64 p, .int .i64 s, .int .i64 d, .slice a n cp], .int .i64 c] w fun e w' =>
      ∃ g cap, e = .returned (.slice (some ⟨g, 0, none⟩) 20 cap) ∧ Owns w' w.heap.size g cap (headZ t p s d n c) ∧ Below w.heap.size w w' := by
  go_enter Tryd.func27, Tryd.ntmps27
  go_upto_region 2 with fail
  have HX := (box_new w t p s d (.slice a n cp)).below ((Below.refl (w.heap.size + 1) _).alloc (by simp) (.cells #[.int .u8 69, .int .u8 0] 5)) (by omega)
  have HO : Hid (Owns ((w.alloc (.cells #[.int .i64 t, .int .i64 p, .int .i64 s, .int .i64 d, .slice a n cp] 24)).alloc (.cells #[.int .u8 69, .int .u8 0] 5)) (w.heap.size + 1) (w.heap.size + 1) 2 [69, 0]) := owns_two' _ _ (by simp) 69 0
  have HB : Hid (Below w.heap.size w _) := ((Below.refl w.heap.size w).alloc (Nat.le_refl _) (.cells #[.int .i64 t, .int .i64 p, .int .i64 s, .int .i64 d, .slice a n cp] 24)).alloc (by simp) (.cells #[.int .u8 69, .int .u8 0] 5)
  generalize (w.alloc (.cells #[.int .i64 t, .int .i64 p, .int .i64 s, .int .i64 d, .slice a n cp] 24)).alloc (.cells #[.int .u8 69, .int .u8 0] 5) = W at *
  obtain ⟨x0, x1, x2, x3, x4⟩ := id HX
  have KX : Hid (Box W w.heap.size t p s d (.slice a n cp)) := HX
  clear HX
  go_wp2_with fail
  refine (wappend2 _ (w.heap.size + 1) _ _ _ [69, 0] W HO.out rfl (by simp) HO.out.more).mono ?_
  rintro e w1 ⟨g1, cp1, rfl, ho1, hb1⟩
  replace KX : Hid (Box w1 w.heap.size t p s d (.slice a n cp)) := KX.out.below hb1 (by omega)
  replace HO : Hid (Owns w1 (w.heap.size + 1) g1 cp1 _) := ho1
  replace HB : Hid (Below w.heap.size w w1) := HB.out.trans (hb1.mono (by omega))
  clear x0 x1 x2 x3 x4 ho1 hb1
  obtain ⟨x0, x1, x2, x3, x4⟩ := id KX.out
  go_wp2_with fail
  refine (wappend4 _ (w.heap.size + 1) _ _ _ _ w1 HO.out rfl (by simp [be2]) HO.out.more).mono ?_
  rintro e w2 ⟨g2, cp2, rfl, ho1, hb1⟩
  replace KX : Hid (Box w2 w.heap.size t p s d (.slice a n cp)) := KX.out.below hb1 (by omega)
  replace HO : Hid (Owns w2 (w.heap.size + 1) g2 cp2 _) := ho1
  replace HB : Hid (Below w.heap.size w w2) := HB.out.trans (hb1.mono (by omega))
  clear x0 x1 x2 x3 x4 ho1 hb1
  obtain ⟨x0, x1, x2, x3, x4⟩ := id KX.out
  go_wp2_with (at_builtin; go_must (refine wp_append_bytes _ rfl _ _ rfl (w.heap.size + 1) g2 cp2 _ _ rfl rfl (HO.out.alloc _) _ _ _ rfl [t % 256, p % 256] rfl (bts_two _ _ _) (by simp) (by simp [be2, be4]) (by have := HO.out.more; simp; omega) ?_))
  intro g3 cp3 w3 ho3 hg3
  have hb3 : Below (w.heap.size + 1) w2 w3 := ((Below.refl _ _).alloc HO.out.more _).grown hg3 (by have := HO.out.more; simp; omega) (fun j hj => by cases hj; exact HO.out.lt.1)
  replace KX : Hid (Box w3 w.heap.size t p s d (.slice a n cp)) := KX.out.below hb3 (by omega)
  replace HO : Hid (Owns w3 (w.heap.size + 1) g3 cp3 _) := ho3
  replace HB : Hid (Below w.heap.size w w3) := HB.out.trans (hb3.mono (by omega))
  clear x0 x1 x2 x3 x4 ho3 hb3 hg3
  obtain ⟨x0, x1, x2, x3, x4⟩ := id KX.out
  go_wp2_with fail
  refine (wappend2 _ (w.heap.size + 1) _ _ _ _ w3 HO.out rfl (by simp [be2, be4]) HO.out.more).mono ?_
  rintro e w4 ⟨g4, cp4, rfl, ho1, hb1⟩
  replace KX : Hid (Box w4 w.heap.size t p s d (.slice a n cp)) := KX.out.below hb1 (by omega)
  replace HO : Hid (Owns w4 (w.heap.size + 1) g4 cp4 _) := ho1
  replace HB : Hid (Below w.heap.size w w4) := HB.out.trans (hb1.mono (by omega))
  clear x0 x1 x2 x3 x4 ho1 hb1
  obtain ⟨x0, x1, x2, x3, x4⟩ := id KX.out
  go_wp2_with fail
  refine (wappend4 _ (w.heap.size + 1) _ _ _ _ w4 HO.out rfl (by simp [be2, be4]) HO.out.more).mono ?_
  rintro e w5 ⟨g5, cp5, rfl, ho1, hb1⟩
  replace KX : Hid (Box w5 w.heap.size t p s d (.slice a n cp)) := KX.out.below hb1 (by omega)
  replace HO : Hid (Owns w5 (w.heap.size + 1) g5 cp5 _) := ho1
  replace HB : Hid (Below w.heap.size w w5) := HB.out.trans (hb1.mono (by omega))
  clear x0 x1 x2 x3 x4 ho1 hb1
  obtain ⟨x0, x1, x2, x3, x4⟩ := id KX.out
  go_wp2_with fail
  refine (wappend4 _ (w.heap.size + 1) _ _ _ _ w5 HO.out rfl (by simp [be2, be4]) HO.out.more).mono ?_
  rintro e w6 ⟨g6, cp6, rfl, ho1, hb1⟩
  replace HO : Hid (Owns w6 (w.heap.size + 1) g6 cp6 _) := ho1
  replace HB : Hid (Below w.heap.size w w6) := HB.out.trans (hb1.mono (by omega))
  clear x0 x1 x2 x3 x4 ho1 hb1
  go_wp2
  go_ret
  exact ⟨g6, cp6, rfl, HO.out.base (by omega), HB.out⟩
end Go.Proofs.YtknpgpmckabmbaaDoor
