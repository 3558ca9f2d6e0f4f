/- What keeps a message from being put; its bytes; Put. -/
import Derived.Test.YtnnmaelnkoihjaaS4W2
import Derived.Deep.Cut
import Derived.Deep.RegionHeld3
namespace Go.Proofs.Ytnnmaelnkoihjaa
open Go.RowKit

theorem below_new' (w : World) (o : Obj) : Below w.heap.size w (w.alloc o) := (Below.refl _ _).alloc (Nat.le_refl _) _
theorem Owns.base {w : World} {base base' g cap : Nat} {zs : List Int} (h : Owns w base g cap zs) (hb : base' ≤ base) : Owns w base' g cap zs := by
  rcases h.2 with ⟨h', _⟩ | ⟨g', cap', cur, h', hbg, r⟩
  · cases h'
  · exact ⟨h.1, .inr ⟨g', cap', cur, h', by omega, r⟩⟩
theorem Owns.more {w : World} {base g cap : Nat} {zs : List Int} (h : Owns w base g cap zs) : base ≤ w.heap.size := by have := h.lt; omega
theorem owns_two (w : World) (x y : Int) : Owns (w.alloc (.cells #[.int .u8 x, .int .u8 y] 5)) w.heap.size w.heap.size 2 [x, y] :=
  World.ownsRow_lit w #[.int .u8 x, .int .u8 y] 2 (Nat.le_refl _) (by decide) rfl
/-- A message in a variable. -/
structure Msg (w : World) (b : Nat) (k t g : Int) : Prop where
  k0 : w.cell? ⟨b, 0, none⟩ = some (.int .i64 k)
  t0 : w.cell? ⟨b, 1, none⟩ = some (.int .i64 t)
  g0 : w.cell? ⟨b, 2, none⟩ = some (.int .i64 g)
theorem Msg.below {w w' : World} {b N : Nat} {k t g : Int} (h : Msg w b k t g) (hb : Below N w w') (hN : b < N) : Msg w' b k t g := by
  obtain ⟨h0, h1, h2⟩ := h
  exact ⟨by rw [hb.cell hN]; exact h0, by rw [hb.cell hN]; exact h1, by rw [hb.cell hN]; exact h2⟩
theorem msg_new (w : World) (k t g : Int) : Msg (w.alloc (.cells #[.int .i64 k, .int .i64 t, .int .i64 g] 23)) w.heap.size k t g := by
  constructor <;> simp
theorem Msg.lt {w : World} {b : Nat} {k t g : Int} (h : Msg w b k t g) : b < w.heap.size := by
  rcases Nat.lt_or_ge b w.heap.size with h' | h'
  · exact h'
  · have := h.k0; simp [World.cell?, Array.getElem?_eq_none h'] at this

theorem argB_one {t g : Int} (h0 : 0 ≤ t) (h1 : t ≤ 255) : argB 1 t g = (multiB g || decide (g = 0)) := by unfold argB; simp [h0, h1]
theorem argB_not {k t g : Int} (h0 : k ≠ 1) : argB k t g = (decide (t = 0) && multiB g) := by
  unfold argB; by_cases h : t = 0 <;> simp [h, h0]
theorem argB_time {k t g : Int} (h : t < 0 ∨ 255 < t) : argB k t g = false := by
  unfold argB; have : ¬ (0 ≤ t ∧ t ≤ 255) := by omega
  simp [this]

set_option maxHeartbeats 800000 in
theorem check_any (k t g : Int) (w : World) :
    Calls Try.prog 13 #[.agg #[.int .i64 k, .int .i64 t, .int .i64 g]] w fun e w' => e = .returned (.int .i64 (putE k t g)) ∧ Below w.heap.size w w' := by
  have HB : Hid (Below w.heap.size w (w.alloc (.cells #[.int .i64 k, .int .i64 t, .int .i64 g] 23))) := below_new' _ _
  by_cases h1 : k = 1
  · subst h1
    by_cases h2 : t < 0
    · have HE : Hid (putE 1 t g = 1) := putE_arg (by omega) (by omega) (argB_time (.inl h2))
      go_enter Try.func13, Try.ntmps13
      go_wp2
      go_ret
      exact ⟨ret_int HE.out.symm, HB.out⟩
    by_cases h3 : 255 < t
    · have HE : Hid (putE 1 t g = 1) := putE_arg (by omega) (by omega) (argB_time (.inr h3))
      go_enter Try.func13, Try.ntmps13
      go_wp2
      go_ret
      exact ⟨ret_int HE.out.symm, HB.out⟩
    by_cases h4 : g = 0
    · have HE : Hid (putE 1 t g = 0) := putE_ok (by omega) (by omega) (by rw [argB_one (by omega) (by omega)]; simp [h4])
      have e4 : (g == 0) = true := by simp [h4]
      clear h4
      go_enter Try.func13, Try.ntmps13
      go_wp2
      go_ret
      exact ⟨ret_int HE.out.symm, below_new' _ _⟩
    have e4 : (g == 0) = false := by simp [h4]
    have HE : Hid (putE 1 t g = if multiB g = true then 0 else 1) := by
      show _ = _
      cases hm : multiB g with
      | true => rw [if_pos rfl]; exact putE_ok (by omega) (by omega) (by rw [argB_one (by omega) (by omega), hm]; rfl)
      | false => rw [if_neg (by decide)]; exact putE_arg (by omega) (by omega) (by rw [argB_one (by omega) (by omega), hm]; simp [h4])
    clear h4
    go_enter Try.func13, Try.ntmps13
    go_wp2_with fail
    refine (multi_any g _).mono ?_
    rintro e w' ⟨rfl, rfl⟩
    cases hm : multiB g with
    | true =>
      go_wp2
      go_ret
      exact ⟨ret_int (by rw [HE.out, hm]; rfl), below_new' _ _⟩
    | false =>
      go_wp2
      go_ret
      exact ⟨ret_int (by rw [HE.out, hm]; rfl), below_new' _ _⟩
  · have e1 : (k == 1) = false := by simp [h1]
    have H1 : Hid (k ≠ 1) := h1
    clear h1
    by_cases h5 : k < 1 ∨ 4 < k
    · have HE : Hid (putE k t g = 5) := putE_kind h5
      have e2 : (k == 2) = false := by simp; omega
      have e3 : (k == 3) = false := by simp; omega
      have e4 : (k == 4) = false := by simp; omega
      clear h5
      go_enter Try.func13, Try.ntmps13
      go_wp2
      go_ret
      exact ⟨ret_int HE.out.symm, HB.out⟩
    by_cases h0 : t = 0
    · have HE : Hid (putE k t g = if multiB g = true then 0 else 1) := by
        show _ = _
        cases hm : multiB g with
        | true => rw [if_pos rfl]; exact putE_ok (by omega) (by omega) (by rw [argB_not H1.out, hm, h0]; rfl)
        | false => rw [if_neg (by decide)]; exact putE_arg (by omega) (by omega) (by rw [argB_not H1.out, hm]; simp)
      subst h0
      have hk : k = 2 ∨ k = 3 ∨ k = 4 := by have := H1.out; omega
      clear h5 H1
      rcases hk with rfl | rfl | rfl
      all_goals
        clear e1
        go_enter Try.func13, Try.ntmps13
        go_wp2_with fail
        refine (multi_any g _).mono ?_
        rintro e w' ⟨rfl, rfl⟩
        cases hm : multiB g with
        | true =>
          go_wp2
          go_ret
          exact ⟨ret_int (by rw [HE.out, hm]; rfl), HB.out⟩
        | false =>
          go_wp2
          go_ret
          exact ⟨ret_int (by rw [HE.out, hm]; rfl), HB.out⟩
    · have HE : Hid (putE k t g = 1) := putE_arg (by omega) (by omega) (by rw [argB_not H1.out]; simp [h0])
      have e0 : (t != 0) = true := by simp [h0]
      have hk : k = 2 ∨ k = 3 ∨ k = 4 := by have := H1.out; omega
      clear h5 H1 h0
      rcases hk with rfl | rfl | rfl
      all_goals
        clear e1
        go_enter Try.func13, Try.ntmps13
        go_wp2
        go_ret
        exact ⟨ret_int HE.out.symm, HB.out⟩

theorem layC_is (f t g c : Int) : ([f % 256, t % 256] ++ be2 c) ++ be4 g = layC f t g c := rfl
set_option maxHeartbeats 800000 in
theorem layWith_any (f t g c : Int) (w : World) :
    Calls Try.prog 26 #[.int .i64 f, .int .i64 t, .int .i64 g, .int .i64 c] w fun e w' =>
      ∃ b cap, e = .returned (.slice (some ⟨b, 0, none⟩) 8 cap) ∧ Owns w' w.heap.size b cap (layC f t g c) ∧ Below w.heap.size w w' := by
  have HO : Hid (Owns (w.alloc (.cells #[.int .u8 (f % 256), .int .u8 (t % 256)] 5)) w.heap.size w.heap.size 2 [f % 256, t % 256]) := owns_two _ _ _
  have HB : Hid (Below w.heap.size w (w.alloc (.cells #[.int .u8 (f % 256), .int .u8 (t % 256)] 5))) := below_new' _ _
  go_enter Try.func26, Try.ntmps26
  go_upto_region 2 with fail
  generalize w.alloc (.cells #[.int .u8 (f % 256), .int .u8 (t % 256)] 5) = W at *
  go_wp2_with fail
  refine (wappend2 _ w.heap.size _ _ _ _ W HO.out rfl (by simp) HO.out.more).mono ?_
  rintro e w1 ⟨g1, cp1, rfl, ho1, hb1⟩
  replace HO : Hid (Owns w1 w.heap.size g1 cp1 _) := ho1
  replace HB : Hid (Below w.heap.size w w1) := HB.out.trans hb1
  clear ho1 hb1
  go_wp2_with fail
  refine (wappend4 _ w.heap.size _ _ _ _ w1 HO.out rfl (by simp [be2]) HO.out.more).mono ?_
  rintro e w2 ⟨g2, cp2, rfl, ho1, hb1⟩
  replace HO : Hid (Owns w2 w.heap.size g2 cp2 _) := ho1
  replace HB : Hid (Below w.heap.size w w2) := HB.out.trans hb1
  clear ho1 hb1
  go_wp2
  go_ret
  exact ⟨g2, cp2, rfl, HO.out, HB.out⟩
theorem inet_at (a : Option Addr) (m cap : Nat) (zs : List Int) (w : World) (hm : m = zs.length) (hB : Bts w a zs) (hz : AreBytes zs) (hc : zs.length ≤ cap) (hl : zs.length ≤ 140737488355328) :
    Calls Try.prog 27 #[.slice a m cap] w fun e w' => e = .returned (.int .i64 (inetZ zs)) ∧ Below w.heap.size w w' := by subst hm; exact inet_any a cap zs w hB hz hc hl
set_option maxHeartbeats 800000 in
theorem lay_any (f t g : Int) (w : World) :
    Calls Try.prog 14 #[.int .i64 f, .int .i64 t, .int .i64 g] w fun e w' =>
      ∃ b cap, e = .returned (.slice (some ⟨b, 0, none⟩) 8 cap) ∧ Owns w' w.heap.size b cap (layZ f t g) ∧ Below w.heap.size w w' := by
  go_enter Try.func14, Try.ntmps14
  go_wp2_with fail
  refine (layWith_any f t g 0 _).mono ?_
  rintro e w1 ⟨b1, c1, rfl, ho1, hb1⟩
  have HB1 : Hid (Below w.heap.size w w1) := hb1
  have hin := inet_at (some ⟨b1, 0, none⟩) 8 c1 (layC f t g 0) w1 rfl ho1.bts (layC_bd _ _ _ _) ho1.cap (by simp [layC_length])
  clear ho1 hb1
  go_wp2_with fail
  refine hin.mono ?_
  rintro e w2 ⟨rfl, hb2⟩
  have HB2 : Hid (Below w.heap.size w w2) := below_more HB1.out hb2 HB1.out.size
  clear hb2 hin HB1
  go_wp2_with fail
  refine (layWith_any f t g _ _).mono ?_
  rintro e w3 ⟨b3, c3, rfl, ho3, hb3⟩
  have HB3 : Hid (Below w.heap.size w w3) := below_more HB2.out hb3 HB2.out.size
  have HO3 : Hid (Owns w3 w.heap.size b3 c3 (layZ f t g)) := ho3.base HB2.out.size
  clear ho3 hb3
  go_wp2
  go_ret
  exact ⟨b3, c3, rfl, HO3.out, HB3.out⟩
end Go.Proofs.Ytnnmaelnkoihjaa
