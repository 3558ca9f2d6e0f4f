/- Which advertisements are right, as the document says it: all of it; Great; the document's example. -/
import Derived.Test.YtmcemhkhgccojaaS5R4
namespace Go.Proofs.Ytmcemhkhgccojaa
open Go.RowKit

theorem right_eq {l : LsaZ} {b : Bool} (hy : b = true → RC l) (hn : b = false → ¬ RC l) : rightLsaB l = b := by
  cases b with
  | true => exact rc_to (hy rfl)
  | false => exact right_no (hn rfl)
theorem rrightLsa_any (s : Seats) (l : LsaZ) (w : World) (hH : Held w s l) (hf : Fits l) :
    Calls Try.prog 42 #[.agg (lsaA s l)] w fun e w' => e = .returned (.bool (rightLsaB l)) ∧ Below w.heap.size w w' := by
  cases hh : headRB l.head with
  | false => exact rr_head s l w hh
  | true =>
    by_cases hf0 : l.flags < 0
    · exact rr_f0 s l w hf hh hf0
    by_cases hf1 : 255 < l.flags
    · exact rr_f1 s l w hf hh hf0 hf1
    by_cases hg0 : 64 < l.links.length
    · exact rr_g0 s l w hf hh hf0 hf1 hg0
    by_cases hb0 : l.bits < 0
    · exact rr_b0 s l w hf hh hf0 hf1 hg0 hb0
    by_cases hb1 : 32 < l.bits
    · exact rr_b1 s l w hf hh hf0 hf1 hg0 hb0 hb1
    by_cases hg1 : 64 < l.routers.length
    · exact rr_g1 s l w hf hh hf0 hf1 hg0 hb0 hb1 hg1
    by_cases hg2 : 64 < l.verts.length
    · exact rr_g2 s l w hf hh hf0 hf1 hg0 hb0 hb1 hg1 hg2
    have hkk : l.head.kind = 1 ∨ l.head.kind = 2 ∨ l.head.kind = 6 := by
      have h0 := hh
      unfold headRB kindB at h0
      simp only [Bool.and_eq_true, Bool.or_eq_true, beq_iff_eq] at h0
      omega
    rcases hkk with hk | hk | hk
    · by_cases hv2 : l.bits ≠ 0
      · exact rr_k1_v2 s l w hf hh hk hf0 hf1 hg0 hb0 hb1 hg1 hg2 hv2
      by_cases hl2 : 0 < l.routers.length
      · exact rr_k1_l2 s l w hf hh hk hf0 hf1 hg0 hb0 hb1 hg1 hg2 hv2 hl2
      by_cases hl6 : 0 < l.verts.length
      · exact rr_k1_l6 s l w hf hh hk hf0 hf1 hg0 hb0 hb1 hg1 hg2 hv2 hl2 hl6
      refine rr_go1 s l w hf hH hh hk hf0 hf1 hg0 hb0 hb1 hg1 hg2 hv2 hl2 hl6 (right_eq (fun ha => ⟨hh, by omega, by omega, by omega, by omega, by omega, fun h => by omega, fun h => by omega, fun h => by omega, ha, all_nil _ (by omega), all_nil _ (by omega)⟩) (fun hn h => by have := h.al; rw [hn] at this; cases this))
    · by_cases hv1 : l.flags ≠ 0
      · exact rr_k2_v1 s l w hf hh hk hf0 hf1 hg0 hb0 hb1 hg1 hg2 hv1
      by_cases hl1 : 0 < l.links.length
      · exact rr_k2_l1 s l w hf hh hk hf0 hf1 hg0 hb0 hb1 hg1 hg2 hv1 hl1
      by_cases hl6 : 0 < l.verts.length
      · exact rr_k2_l6 s l w hf hh hk hf0 hf1 hg0 hb0 hb1 hg1 hg2 hv1 hl1 hl6
      refine rr_go2 s l w hf hH hh hk hf0 hf1 hg0 hb0 hb1 hg1 hg2 hv1 hl1 hl6 (right_eq (fun ha => ⟨hh, by omega, by omega, by omega, by omega, by omega, fun h => by omega, fun h => by omega, fun h => by omega, all_nil _ (by omega), ha, all_nil _ (by omega)⟩) (fun hn h => by have := h.ar; rw [hn] at this; cases this))
    · by_cases hv1 : l.flags ≠ 0
      · exact rr_k6_v1 s l w hf hh hk hf0 hf1 hg0 hb0 hb1 hg1 hg2 hv1
      by_cases hl1 : 0 < l.links.length
      · exact rr_k6_l1 s l w hf hh hk hf0 hf1 hg0 hb0 hb1 hg1 hg2 hv1 hl1
      by_cases hv2 : l.bits ≠ 0
      · exact rr_k6_v2 s l w hf hh hk hf0 hf1 hg0 hb0 hb1 hg1 hg2 hv1 hl1 hv2
      by_cases hl2 : 0 < l.routers.length
      · exact rr_k6_l2 s l w hf hh hk hf0 hf1 hg0 hb0 hb1 hg1 hg2 hv1 hl1 hv2 hl2
      refine rr_go6 s l w hf hH hh hk hf0 hf1 hg0 hb0 hb1 hg1 hg2 hv1 hl1 hv2 hl2 (right_eq (fun ha => ⟨hh, by omega, by omega, by omega, by omega, by omega, fun h => by omega, fun h => by omega, fun h => by omega, all_nil _ (by omega), all_nil _ (by omega), ha⟩) (fun hn h => by have := h.av; rw [hn] at this; cases this))
set_option maxHeartbeats 800000 in
theorem great_any (s : Seats) (l : LsaZ) (w : World) :
    Calls Try.prog 28 #[.agg (lsaA s l)] w fun e w' => e = .returned (.bool (greatB l)) ∧ Below w.heap.size w w' := by
  have HE : Hid (greatB l = (decide (70 < (l.links.length : Int)) || decide (70 < (l.routers.length : Int)) || decide (70 < (l.verts.length : Int)))) := rfl
  generalize greatB l = R at *
  go_enter Try.func28, Try.ntmps28
  go_wp2
  all_goals go_ret
  all_goals exact ⟨ret_bool (by rw [HE.out] <;> simp [*]), below_new' _ _⟩
theorem great_mid {l : LsaZ} (h : greatB l = false) : Mid l := by
  simp only [greatB, Bool.or_eq_false_iff, decide_eq_false_iff_not] at h
  exact ⟨by omega, by omega, by omega⟩
theorem num_any (k : Int) (w : World) : Calls Try.prog 9 #[.int .i64 k] w fun e w' => e = .returned (.int .i64 k) ∧ w' = w := by
  go_enter Try.func9, Try.ntmps9
  go_wp2
  go_ret
  exact ⟨rfl, rfl⟩
end Go.Proofs.Ytmcemhkhgccojaa
