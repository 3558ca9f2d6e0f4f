/- Package elect: who is heard, a round, Elect. -/
import Derived.Test.YtioimebfenklkaaE10W
namespace Go.Proofs.Ytioimebfenklkaa
open Go.RowKit
set_option linter.unusedVariables false

theorem Below.drew_first {N : Nat} {w w' : World} (h : Below N w.drew w') : Below N w w' := (Below.refl _ _).drew.trans h
theorem Var.put5at {w : World} {b : Nat} {vs : List Value} (h : Var w b vs) (o : Nat) (v0 v1 v2 v3 v4 : Value) : Var (((((w.setCell ⟨b, o, none⟩ v0).setCell ⟨b, o + 1, none⟩ v1).setCell ⟨b, o + 2, none⟩ v2).setCell ⟨b, o + 3, none⟩ v3).setCell ⟨b, o + 4, none⟩ v4) b (((((vs.set o v0).set (o + 1) v1).set (o + 2) v2).set (o + 3) v3).set (o + 4) v4) :=
  h |>.set o v0 |>.set (o + 1) v1 |>.set (o + 2) v2 |>.set (o + 3) v3 |>.set (o + 4) v4
def HearEnd (w : World) (b : Nat) (c : ClaimsZ) (e : Ending) (w' : World) : Prop := e = .returned (.tuple #[]) ∧ Var w' b (clC c) ∧ Below b w w'
theorem hear_none (b : Nat) (c : ClaimsZ) (x : CandZ) (w : World) (h : Var w b (clC c)) (h1 : x.prio ≤ 0) : Calls Try.prog 18 #[.pointer (some ⟨b, 0, none⟩), .agg (candA x)] w (HearEnd w b (hearZ c x)) := by
  have HB : Hid (HearEnd w b (hearZ c x) (.returned (.tuple #[])) (w.alloc (.cells (candA x) 23))) := by
    have h2 : hearZ c x = c := by unfold hearZ; rw [if_pos h1]
    rw [h2]
    exact ⟨rfl, h.alloc _, (below_new' _ _).mono (Nat.le_of_lt h.lt)⟩
  clear h
  go_enter Try.func18, Try.ntmps18
  go_wp2
  exact bodyPost_ret (v := .tuple #[]) (by simp [results, Try.results18, go_sem]) rfl HB.out
set_option maxHeartbeats 1600000 in
theorem hear_d (b : Nat) (c : ClaimsZ) (x : CandZ) (w : World) (h : Var w b (clC c)) (h1 : 0 < x.prio) (h2 : (x.dr == x.addr) = true) : Calls Try.prog 18 #[.pointer (some ⟨b, 0, none⟩), .agg (candA x)] w (HearEnd w b (hearZ c x)) := by
  obtain ⟨y, hy⟩ : ∃ y, betZ c.d x = y := ⟨_, rfl⟩
  have HE : Hid (hearZ c x = { c with d := y }) := by show _ = _; unfold hearZ; rw [if_neg (by omega), if_pos (by simpa using h2), hy]
  have HB0 : Below w.heap.size w (w.alloc (.cells (candA x) 23)) := below_new' _ _
  have HC : Hid (Var (w.alloc (.cells (candA x) 23)) b (clC c)) := h.alloc _
  have HX : Hid (Var (w.alloc (.cells (candA x) 23)) w.heap.size (candC x)) := var_new w (candC x) _
  have HFIN : Hid (∀ w2 : World, Below (w.alloc (.cells (candA x) 23)).heap.size (w.alloc (.cells (candA x) 23)).drew w2 → HearEnd w b (hearZ c x) (.returned (.tuple #[])) (((((w2.setCell ⟨b, 0, none⟩ (.int .i64 y.id)).setCell ⟨b, 1, none⟩ (.int .i64 y.addr)).setCell ⟨b, 2, none⟩ (.int .i64 y.prio)).setCell ⟨b, 3, none⟩ (.int .i64 y.dr)).setCell ⟨b, 4, none⟩ (.int .i64 y.bdr))) := by
    intro w2 hb2
    rw [HE.out]
    have hb3 := Below.drew_first hb2
    refine ⟨rfl, (HC.out.below hb3 HC.out.lt).put5at 0 _ _ _ _ _, ?_⟩
    exact below_put5 (o := 0) (((HB0.trans (hb3.mono (by simp)))).mono (Nat.le_of_lt h.lt)) (Nat.le_refl _) _ _ _ _ _
  have HN : Hid (HearEnd w b (hearZ c x) = HearEnd w b (hearZ c x)) := rfl
  generalize hearZ c x = R at *
  clear h HB0 HE
  have CB := better_any c.d x
  go_enter Try.func18, Try.ntmps18
  go_upto_region 2 with fail
  generalize w.alloc (.cells (candA x) 23) = W at *
  have d0 := HX.out.cell 0 rfl
  have d1 := HX.out.cell 1 rfl
  have d2 := HX.out.cell 2 rfl
  have d3 := HX.out.cell 3 rfl
  have d4 := HX.out.cell 4 rfl
  have c0 := HC.out.cell 0 rfl
  have c1 := HC.out.cell 1 rfl
  have c2 := HC.out.cell 2 rfl
  have c3 := HC.out.cell 3 rfl
  have c4 := HC.out.cell 4 rfl
  have HEq : Hid (betZ c.d x = y) := hy
  rw [hy] at CB
  clear hy
  go_upto_region 4 with fail
  go_region_with (first
    | (go_at_call 22; refine (CB _).mono ?_; rintro e w2 ⟨rfl, hb2⟩; have hc2 := HC.out.below (Below.drew_first hb2) HC.out.lt; have q0 := hc2.cell 0 rfl; have q1 := hc2.cell 1 rfl; have q2 := hc2.cell 2 rfl; have q3 := hc2.cell 3 rfl; have q4 := hc2.cell 4 rfl; have g0 := hc2.frozen 0; have g1 := hc2.frozen 1; have g2 := hc2.frozen 2; have g3 := hc2.frozen 3; have g4 := hc2.frozen 4))
  all_goals
    go_wp2
    exact bodyPost_ret (v := .tuple #[]) (by simp [results, Try.results18, go_sem]) rfl (HFIN.out _ hb2)
set_option maxHeartbeats 1600000 in
theorem hear_b (b : Nat) (c : ClaimsZ) (x : CandZ) (w : World) (h : Var w b (clC c)) (h1 : 0 < x.prio) (h2 : ¬ x.dr = x.addr) (h3 : (x.bdr == x.addr) = true) : Calls Try.prog 18 #[.pointer (some ⟨b, 0, none⟩), .agg (candA x)] w (HearEnd w b (hearZ c x)) := by
  obtain ⟨y, hy⟩ : ∃ y, betZ c.b x = y := ⟨_, rfl⟩
  have HE : Hid (hearZ c x = { c with b := y }) := by show _ = _; unfold hearZ; rw [if_neg (by omega), if_neg h2, if_pos (by simpa using h3), hy]
  have HB0 : Below w.heap.size w (w.alloc (.cells (candA x) 23)) := below_new' _ _
  have HC : Hid (Var (w.alloc (.cells (candA x) 23)) b (clC c)) := h.alloc _
  have HX : Hid (Var (w.alloc (.cells (candA x) 23)) w.heap.size (candC x)) := var_new w (candC x) _
  have HFIN : Hid (∀ w2 : World, Below (w.alloc (.cells (candA x) 23)).heap.size (w.alloc (.cells (candA x) 23)).drew w2 → HearEnd w b (hearZ c x) (.returned (.tuple #[])) (((((w2.setCell ⟨b, 5, none⟩ (.int .i64 y.id)).setCell ⟨b, 6, none⟩ (.int .i64 y.addr)).setCell ⟨b, 7, none⟩ (.int .i64 y.prio)).setCell ⟨b, 8, none⟩ (.int .i64 y.dr)).setCell ⟨b, 9, none⟩ (.int .i64 y.bdr))) := by
    intro w2 hb2
    rw [HE.out]
    have hb3 := Below.drew_first hb2
    refine ⟨rfl, (HC.out.below hb3 HC.out.lt).put5at 5 _ _ _ _ _, ?_⟩
    exact below_put5 (o := 5) (((HB0.trans (hb3.mono (by simp)))).mono (Nat.le_of_lt h.lt)) (Nat.le_refl _) _ _ _ _ _
  have HN : Hid (HearEnd w b (hearZ c x) = HearEnd w b (hearZ c x)) := rfl
  generalize hearZ c x = R at *
  clear h HB0 HE
  have CB := better_any c.b x
  go_enter Try.func18, Try.ntmps18
  go_upto_region 2 with fail
  generalize w.alloc (.cells (candA x) 23) = W at *
  have d0 := HX.out.cell 0 rfl
  have d1 := HX.out.cell 1 rfl
  have d2 := HX.out.cell 2 rfl
  have d3 := HX.out.cell 3 rfl
  have d4 := HX.out.cell 4 rfl
  have c0 := HC.out.cell 5 rfl
  have c1 := HC.out.cell 6 rfl
  have c2 := HC.out.cell 7 rfl
  have c3 := HC.out.cell 8 rfl
  have c4 := HC.out.cell 9 rfl
  have HEq : Hid (betZ c.b x = y) := hy
  rw [hy] at CB
  clear hy
  go_upto_region 6 with fail
  go_region_with (first
    | (go_at_call 22; refine (CB _).mono ?_; rintro e w2 ⟨rfl, hb2⟩; have hc2 := HC.out.below (Below.drew_first hb2) HC.out.lt; have q0 := hc2.cell 5 rfl; have q1 := hc2.cell 6 rfl; have q2 := hc2.cell 7 rfl; have q3 := hc2.cell 8 rfl; have q4 := hc2.cell 9 rfl; have g0 := hc2.frozen 5; have g1 := hc2.frozen 6; have g2 := hc2.frozen 7; have g3 := hc2.frozen 8; have g4 := hc2.frozen 9))
  all_goals
    go_wp2
    exact bodyPost_ret (v := .tuple #[]) (by simp [results, Try.results18, go_sem]) rfl (HFIN.out _ hb2)
set_option maxHeartbeats 1600000 in
theorem hear_r (b : Nat) (c : ClaimsZ) (x : CandZ) (w : World) (h : Var w b (clC c)) (h1 : 0 < x.prio) (h2 : ¬ x.dr = x.addr) (h3 : ¬ x.bdr = x.addr) : Calls Try.prog 18 #[.pointer (some ⟨b, 0, none⟩), .agg (candA x)] w (HearEnd w b (hearZ c x)) := by
  obtain ⟨y, hy⟩ : ∃ y, betZ c.r x = y := ⟨_, rfl⟩
  have HE : Hid (hearZ c x = { c with r := y }) := by show _ = _; unfold hearZ; rw [if_neg (by omega), if_neg h2, if_neg h3, hy]
  have HB0 : Below w.heap.size w (w.alloc (.cells (candA x) 23)) := below_new' _ _
  have HC : Hid (Var (w.alloc (.cells (candA x) 23)) b (clC c)) := h.alloc _
  have HX : Hid (Var (w.alloc (.cells (candA x) 23)) w.heap.size (candC x)) := var_new w (candC x) _
  have HFIN : Hid (∀ w2 : World, Below (w.alloc (.cells (candA x) 23)).heap.size (w.alloc (.cells (candA x) 23)).drew w2 → HearEnd w b (hearZ c x) (.returned (.tuple #[])) (((((w2.setCell ⟨b, 10, none⟩ (.int .i64 y.id)).setCell ⟨b, 11, none⟩ (.int .i64 y.addr)).setCell ⟨b, 12, none⟩ (.int .i64 y.prio)).setCell ⟨b, 13, none⟩ (.int .i64 y.dr)).setCell ⟨b, 14, none⟩ (.int .i64 y.bdr))) := by
    intro w2 hb2
    rw [HE.out]
    have hb3 := Below.drew_first hb2
    refine ⟨rfl, (HC.out.below hb3 HC.out.lt).put5at 10 _ _ _ _ _, ?_⟩
    exact below_put5 (o := 10) (((HB0.trans (hb3.mono (by simp)))).mono (Nat.le_of_lt h.lt)) (Nat.le_refl _) _ _ _ _ _
  have HN : Hid (HearEnd w b (hearZ c x) = HearEnd w b (hearZ c x)) := rfl
  generalize hearZ c x = R at *
  clear h HB0 HE
  have CB := better_any c.r x
  go_enter Try.func18, Try.ntmps18
  go_upto_region 2 with fail
  generalize w.alloc (.cells (candA x) 23) = W at *
  have d0 := HX.out.cell 0 rfl
  have d1 := HX.out.cell 1 rfl
  have d2 := HX.out.cell 2 rfl
  have d3 := HX.out.cell 3 rfl
  have d4 := HX.out.cell 4 rfl
  have c0 := HC.out.cell 10 rfl
  have c1 := HC.out.cell 11 rfl
  have c2 := HC.out.cell 12 rfl
  have c3 := HC.out.cell 13 rfl
  have c4 := HC.out.cell 14 rfl
  have HEq : Hid (betZ c.r x = y) := hy
  rw [hy] at CB
  clear hy
  go_upto_region 1 with fail
  go_region_with (first
    | (go_at_call 22; refine (CB _).mono ?_; rintro e w2 ⟨rfl, hb2⟩; have hc2 := HC.out.below (Below.drew_first hb2) HC.out.lt; have q0 := hc2.cell 10 rfl; have q1 := hc2.cell 11 rfl; have q2 := hc2.cell 12 rfl; have q3 := hc2.cell 13 rfl; have q4 := hc2.cell 14 rfl; have g0 := hc2.frozen 10; have g1 := hc2.frozen 11; have g2 := hc2.frozen 12; have g3 := hc2.frozen 13; have g4 := hc2.frozen 14))
  all_goals
    go_wp2
    exact bodyPost_ret (v := .tuple #[]) (by simp [results, Try.results18, go_sem]) rfl (HFIN.out _ hb2)
theorem hear_any (b : Nat) (c : ClaimsZ) (x : CandZ) (w : World) (h : Var w b (clC c)) : Calls Try.prog 18 #[.pointer (some ⟨b, 0, none⟩), .agg (candA x)] w (HearEnd w b (hearZ c x)) := by
  by_cases h1 : x.prio ≤ 0
  · exact hear_none b c x w h h1
  by_cases h2 : x.dr = x.addr
  · exact hear_d b c x w h (by omega) (by simpa using h2)
  by_cases h3 : x.bdr = x.addr
  · exact hear_b b c x w h (by omega) h2 (by simpa using h3)
  · exact hear_r b c x w h (by omega) h2 h3
end Go.Proofs.Ytioimebfenklkaa
