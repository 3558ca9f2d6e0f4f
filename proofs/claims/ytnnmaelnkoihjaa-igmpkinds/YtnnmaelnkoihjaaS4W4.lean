/- Put. -/
import Derived.Test.YtnnmaelnkoihjaaS4W3
namespace Go.Proofs.Ytnnmaelnkoihjaa
open Go.RowKit

set_option maxHeartbeats 800000 in
theorem put_bad (k t g : Int) (w : World) (h0 : putE k t g ≠ 0) :
    Calls Try.prog 8 #[.agg #[.int .i64 k, .int .i64 t, .int .i64 g]] w fun e w' => e = .returned (.tuple #[.slice none 0 0, .int .i64 (putE k t g)]) ∧ Below w.heap.size w w' := by
  have HB0 : Hid (Below w.heap.size w (w.alloc (.cells #[.int .i64 k, .int .i64 t, .int .i64 g] 23))) := below_new' _ _
  have hch := check_any k t g (w.alloc (.cells #[.int .i64 k, .int .i64 t, .int .i64 g] 23))
  have e0 : (putE k t g != 0) = true := by simp [h0]
  clear h0
  generalize putE k t g = r at *
  go_enter Try.func8, Try.ntmps8
  go_wp2_with fail
  refine hch.mono ?_
  rintro e w1 ⟨rfl, hb1⟩
  have HB1 : Hid (Below w.heap.size w w1) := below_more HB0.out hb1 HB0.out.size
  clear hb1 hch
  go_wp2
  go_ret2
  exact ⟨rfl, HB1.out⟩

theorem keep_msg {W W' : World} {b N : Nat} {k t g : Int} (h : W.cell? ⟨b, 0, none⟩ = some (.int .i64 k) ∧ W.cell? ⟨b, 1, none⟩ = some (.int .i64 t) ∧ W.cell? ⟨b, 2, none⟩ = some (.int .i64 g)) (hb : Below N W W') (hN : b < N) :
    W'.cell? ⟨b, 0, none⟩ = some (.int .i64 k) ∧ W'.cell? ⟨b, 1, none⟩ = some (.int .i64 t) ∧ W'.cell? ⟨b, 2, none⟩ = some (.int .i64 g) := by
  obtain ⟨h0, h1, h2⟩ := h
  exact ⟨by rw [hb.cell hN]; exact h0, by rw [hb.cell hN]; exact h1, by rw [hb.cell hN]; exact h2⟩
set_option maxHeartbeats 1600000 in
theorem put_good (k t g : Int) (w : World) (h0 : putE k t g = 0) :
    Calls Try.prog 8 #[.agg #[.int .i64 k, .int .i64 t, .int .i64 g]] w fun e w' =>
      ∃ b cap, e = .returned (.tuple #[.slice (some ⟨b, 0, none⟩) 8 cap, .int .i64 0]) ∧ Owns w' w.heap.size b cap (layZ (codeZ k) t g) ∧ Below w.heap.size w w' := by
  have hb0 : Below w.heap.size w (w.alloc (.cells #[.int .i64 k, .int .i64 t, .int .i64 g] 23)) := below_new' _ _
  have hm0 := msg_new w k t g
  have hch := check_any k t g (w.alloc (.cells #[.int .i64 k, .int .i64 t, .int .i64 g] 23))
  rw [h0] at hch
  have HB0 : Hid (Below w.heap.size w (w.alloc (.cells #[.int .i64 k, .int .i64 t, .int .i64 g] 23))) := hb0
  have HM0 : Hid (Msg _ w.heap.size k t g) := hm0
  clear hb0 hm0 h0
  go_enter Try.func8, Try.ntmps8
  go_wp2_with fail
  refine hch.mono ?_
  rintro e w1 ⟨rfl, hb1⟩
  have hB1 : Below w.heap.size w w1 := below_more HB0.out hb1 HB0.out.size
  have hM1 := HM0.out.below hb1 HM0.out.lt
  clear hb1 hch HB0 HM0
  have hlt : w.heap.size < w1.drew.heap.size := hM1.lt
  have hBd : Below w.heap.size w w1.drew := hB1.drew
  obtain ⟨x0, x1, x2⟩ := hM1
  go_wp2_with fail
  go_region_held3 (fun w' => w'.cell? ⟨w.heap.size, 0, none⟩ = some (.int .i64 k) ∧ w'.cell? ⟨w.heap.size, 1, none⟩ = some (.int .i64 t) ∧ w'.cell? ⟨w.heap.size, 2, none⟩ = some (.int .i64 g)) (first | exact keep_msg (by assumption) hk hlt | go_keep)
    (first | (go_at_call 15; refine (code_any k _).mono ?_; rintro e w' ⟨rfl, rfl⟩) | (go_at_call 14; refine (lay_any (codeZ k) t g _).mono ?_; rintro e w' ⟨b, cap, rfl, ho, hk⟩))
  rename_i hH
  have HR : Hid (Owns w' w.heap.size b cap (layZ (codeZ k) t g) ∧ Below w.heap.size w w') := ⟨ho.base (Nat.le_of_lt hlt), below_more hBd hk (Nat.le_of_lt hlt)⟩
  clear ho hk hH hB1 hBd
  go_wp2
  go_ret2
  exact ⟨_, _, rfl, HR.out⟩
end Go.Proofs.Ytnnmaelnkoihjaa
