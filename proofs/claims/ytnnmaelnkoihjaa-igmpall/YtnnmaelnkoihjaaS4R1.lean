/- The document's way to put a message. -/
import Derived.Test.YtnnmaelnkoihjaaS4L0
namespace Go.Proofs.Ytnnmaelnkoihjaa
open Go.RowKit

theorem bts_four (W : World) (a b c d : Int) : Bts (W.alloc (.cells #[.int .u8 a, .int .u8 b, .int .u8 c, .int .u8 d] 5)) (some ⟨W.heap.size, 0, none⟩) [a, b, c, d] :=
  .inr ⟨_, 0, rfl, fun i hi => by
    have : i = 0 ∨ i = 1 ∨ i = 2 ∨ i = 3 := by simp at hi; omega
    rcases this with rfl | rfl | rfl | rfl <;> simp⟩
theorem owns_four (W : World) (a b c d : Int) : Owns (W.alloc (.cells #[.int .u8 a, .int .u8 b, .int .u8 c, .int .u8 d] 5)) W.heap.size W.heap.size 4 [a, b, c, d] :=
  World.ownsRow_lit W #[.int .u8 a, .int .u8 b, .int .u8 c, .int .u8 d] 4 (Nat.le_refl _) (by decide) rfl
theorem four_any (n : Int) (w : World) : Calls Try.prog 18 #[.int .i64 n] w fun e w' => e = .returned (.slice (some ⟨w.heap.size, 0, none⟩) 4 4) ∧ Bts w' (some ⟨w.heap.size, 0, none⟩) (be4 n) ∧ Below w.heap.size w w' := by
  go_enter Try.func18, Try.ntmps18
  go_wp2
  go_ret
  exact ⟨rfl, bts_four _ _ _ _ _, (Below.refl _ _).alloc (Nat.le_refl _) _⟩
theorem grown_below {W W' : World} {N g cap : Nat} {zs : List Int} (ho : Owns W N g cap zs) (hg : W.grownBy W' (some g)) : Below N W W' :=
  (Below.refl _ _).grown hg ho.more (fun j hj => by cases hj; exact ho.lt.1)
theorem rinet_at (a : Option Addr) (m cap : Nat) (zs : List Int) (w : World) (hm : m = zs.length) (hB : Bts w a zs) (hz : AreBytes zs) (hl : zs.length ≤ 140737488355328) :
    Calls Try.prog 19 #[.slice a m cap] w fun e w' => e = .returned (.int .i64 (inetZ zs)) ∧ w' = w := by subst hm; exact rinet_any a cap zs w hB hz hl

set_option maxHeartbeats 400000 in
theorem rkinds_any (k : Int) (h0 : 1 ≤ k) (h1 : k ≤ 4) (w : World) : Calls Try.prog 17 #[.int .i64 k] w fun e w' => e = .returned (.int .u8 (codeZ k)) ∧ Below w.heap.size w w' := by
  have hk : k = 1 ∨ k = 2 ∨ k = 3 ∨ k = 4 := by omega
  rcases hk with rfl | rfl | rfl | rfl
  all_goals
    go_enter Try.func17, Try.ntmps17
    go_wp2
    go_ret
    exact ⟨rfl, below_new' _ _⟩

theorem rret {k r : Int} {w W : World} (h : k = r) (hb : Below w.heap.size w W) : Ending.returned (.tuple #[.slice none 0 0, .int .i64 r]) = .returned (.tuple #[.slice none 0 0, .int .i64 k]) ∧ Below w.heap.size w W := by subst h; exact ⟨rfl, hb⟩
set_option maxHeartbeats 800000 in
theorem rput_bad (k t g : Int) (w : World) (h0 : putE k t g ≠ 0) :
    Calls Try.prog 9 #[.agg #[.int .i64 k, .int .i64 t, .int .i64 g]] w fun e w' => e = .returned (.tuple #[.slice none 0 0, .int .i64 (putE k t g)]) ∧ Below w.heap.size w w' := by
  have HB : Hid (Below w.heap.size w (w.alloc (.cells #[.int .i64 k, .int .i64 t, .int .i64 g] 23))) := below_new' _ _
  by_cases h1 : k < 1
  · have HE : Hid (putE k t g = 5) := putE_kind (.inl h1)
    clear h0
    go_enter Try.func9, Try.ntmps9
    go_wp2
    go_ret2
    exact rret HE.out HB.out
  by_cases h2 : 4 < k
  · have HE : Hid (putE k t g = 5) := putE_kind (.inr h2)
    clear h0
    go_enter Try.func9, Try.ntmps9
    go_wp2
    go_ret2
    exact rret HE.out HB.out
  have HE : Hid (putE k t g = 1) := by
    show _ = _
    rcases Bool.eq_false_or_eq_true (argB k t g) with h | h
    · exact absurd (putE_ok (by omega) (by omega) h) h0
    · exact putE_arg (by omega) (by omega) h
  have HA : Hid (argB k t g = false) := by
    show _ = _
    rcases Bool.eq_false_or_eq_true (argB k t g) with h | h
    · exact absurd (putE_ok (by omega) (by omega) h) h0
    · exact h
  clear h0
  by_cases h3 : t < 0
  · go_enter Try.func9, Try.ntmps9
    go_wp2
    go_ret2
    exact rret HE.out HB.out
  by_cases h4 : 255 < t
  · go_enter Try.func9, Try.ntmps9
    go_wp2
    go_ret2
    exact rret HE.out HB.out
  by_cases h5 : k = 1
  · have q1 : (k != 1) = false := by simp [h5]
    have HM : Hid (multiB g = false ∧ g ≠ 0) := by
      have := HA.out
      rw [h5, argB_one (by omega) (by omega)] at this
      show multiB g = false ∧ g ≠ 0
      simpa using this
    have q2 : (g != 0) = true := by simp [HM.out.2]
    have hm := HM.out.1
    clear h5 HA
    go_enter Try.func9, Try.ntmps9
    go_wp2_with fail
    refine (rmulti_any g _).mono ?_
    rintro e w' ⟨rfl, rfl⟩
    rw [hm]
    go_wp2
    go_ret2
    exact rret HE.out HB.out
  have q1 : (k != 1) = true := by simp [h5]
  have H5 : Hid (k ≠ 1) := h5
  clear h5
  by_cases h6 : t = 0
  · have q0 : (t != 0) = false := by simp [h6]
    have hm : multiB g = false := by
      have := HA.out
      rw [argB_not H5.out, h6] at this
      simpa using this
    clear h6 HA
    go_enter Try.func9, Try.ntmps9
    go_wp2_with fail
    refine (rmulti_any g _).mono ?_
    rintro e w' ⟨rfl, rfl⟩
    rw [hm]
    go_wp2
    go_ret2
    exact rret HE.out HB.out
  · have q0 : (t != 0) = true := by simp [h6]
    clear h6 HA
    go_enter Try.func9, Try.ntmps9
    go_wp2
    go_ret2
    exact rret HE.out HB.out
end Go.Proofs.Ytnnmaelnkoihjaa
