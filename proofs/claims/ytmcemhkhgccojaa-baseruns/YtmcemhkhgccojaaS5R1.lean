/- Which advertisements are right, as the document says it. -/
import Derived.Test.YtmcemhkhgccojaaY8D
namespace Go.Proofs.Ytmcemhkhgccojaa
open Go.RowKit

def kindB (k : Int) : Bool := (k == 1) || (k == 2) || (k == 6)
def headRB (h : HeadZ) : Bool := kindB h.kind && rightHeadB h
structure RC (l : LsaZ) : Prop where
  head : headRB l.head = true
  f : 0 ≤ l.flags ∧ l.flags ≤ 255
  ll : l.links.length ≤ 64
  b : 0 ≤ l.bits ∧ l.bits ≤ 32
  rl : l.routers.length ≤ 64
  vl : l.verts.length ≤ 64
  n1 : l.head.kind ≠ 1 → l.flags = 0 ∧ l.links.length = 0
  n2 : l.head.kind ≠ 2 → l.bits = 0 ∧ l.routers.length = 0
  n6 : l.head.kind ≠ 6 → l.verts.length = 0
  al : l.links.all rightLinkB = true
  ar : l.routers.all rightI = true
  av : l.verts.all rightVertB = true
theorem all_nil {α : Type} {l : List α} (f : α → Bool) (h : l.length = 0) : l.all f = true := by
  rw [List.eq_nil_of_length_eq_zero h]; rfl
theorem amongB_true {n lo hi : Int} : amongB n lo hi = true ↔ lo ≤ n ∧ n ≤ hi := by unfold amongB; simp
theorem rightListB_true {α : Type} {f : α → Bool} {l : List α} : rightListB f l = true ↔ l.length ≤ 64 ∧ l.all f = true := by unfold rightListB; simp
theorem rc_of {l : LsaZ} (h : rightLsaB l = true) : RC l := by
  unfold rightLsaB at h
  rw [Bool.and_eq_true] at h
  obtain ⟨hh, hb⟩ := h
  unfold rightBodyB at hb
  split at hb
  · rename_i hk
    simp only [Bool.and_eq_true, rightRouterB, noNetworkB, noGroupB, beq_iff_eq, amongB_true, rightListB_true] at hb
    obtain ⟨⟨⟨hf, hl, ha⟩, hb0, hr⟩, hv⟩ := hb
    exact ⟨by unfold headRB kindB; rw [hh, hk]; rfl, hf, hl, by omega, by omega, by omega, fun h => absurd hk h, fun _ => ⟨hb0, by omega⟩, fun _ => by omega, ha, all_nil _ (by omega), all_nil _ (by omega)⟩
  · split at hb
    · rename_i hk
      simp only [Bool.and_eq_true, noRouterB, rightNetworkB, noGroupB, beq_iff_eq, amongB_true, rightListB_true] at hb
      obtain ⟨⟨⟨hf, hl⟩, hb0, hr, ha⟩, hv⟩ := hb
      exact ⟨by unfold headRB kindB; rw [hh, hk]; rfl, by omega, by omega, hb0, hr, by omega, fun _ => ⟨hf, by omega⟩, fun h => absurd hk h, fun _ => by omega, all_nil _ (by omega), ha, all_nil _ (by omega)⟩
    · split at hb
      · rename_i hk
        simp only [Bool.and_eq_true, noRouterB, noNetworkB, rightGroupB, beq_iff_eq, rightListB_true] at hb
        obtain ⟨⟨⟨hf, hl⟩, hb0, hr⟩, hv, ha⟩ := hb
        exact ⟨by unfold headRB kindB; rw [hh, hk]; rfl, by omega, by omega, by omega, by omega, hv, fun _ => ⟨hf, by omega⟩, fun _ => ⟨hb0, by omega⟩, fun h => absurd hk h, all_nil _ (by omega), all_nil _ (by omega), ha⟩
      · cases hb
theorem rc_to {l : LsaZ} (h : RC l) : rightLsaB l = true := by
  obtain ⟨hh, hf, hl, hb, hr, hv, n1, n2, n6, al, ar, av⟩ := h
  unfold headRB at hh
  rw [Bool.and_eq_true] at hh
  unfold rightLsaB rightBodyB
  rw [hh.2, Bool.true_and]
  have hk := hh.1
  simp only [kindB, Bool.or_eq_true, beq_iff_eq] at hk
  split
  · rename_i hk1
    have := n2 (by omega); have := n6 (by omega)
    simp only [Bool.and_eq_true, rightRouterB, noNetworkB, noGroupB, beq_iff_eq, amongB_true, rightListB_true]
    exact ⟨⟨⟨hf, hl, al⟩, by omega, by omega⟩, by omega⟩
  · split
    · have := n1 (by omega); have := n6 (by omega)
      simp only [Bool.and_eq_true, noRouterB, rightNetworkB, noGroupB, beq_iff_eq, amongB_true, rightListB_true]
      exact ⟨⟨⟨by omega, by omega⟩, hb, hr, ar⟩, by omega⟩
    · have := n1 (by omega); have := n2 (by omega)
      rw [if_pos (by omega)]
      simp only [Bool.and_eq_true, noRouterB, noNetworkB, rightGroupB, beq_iff_eq, rightListB_true]
      exact ⟨⟨⟨by omega, by omega⟩, by omega, by omega⟩, hv, av⟩
theorem right_no {l : LsaZ} (h : ¬ RC l) : rightLsaB l = false := by
  cases hr : rightLsaB l with
  | false => rfl
  | true => exact absurd (rc_of hr) h

set_option maxHeartbeats 400000 in
theorem rright_any (a : Int) (w : World) :
    Calls Try.prog 58 #[.int .i64 a] w fun e w' => e = .returned (.bool (rightI a)) ∧ w' = w := by
  by_cases h0 : 0 ≤ a
  · have HD : Hid (rightI a = decide (a ≤ 4294967295)) := by show _ = _; unfold rightI; simp [h0]
    go_enter Try.func58, Try.ntmps58
    go_wp2
    all_goals go_ret
    all_goals exact ⟨ret_bool (by rw [HD.out]), rfl⟩
  · have HD : Hid (rightI a = false) := by show _ = _; unfold rightI; simp; omega
    go_enter Try.func58, Try.ntmps58
    go_wp2
    all_goals go_ret
    all_goals exact ⟨ret_bool (by rw [HD.out]), rfl⟩
theorem rkind_any (k : Int) (w : World) :
    Calls Try.prog 70 #[.int .i64 k] w fun e w' => e = .returned (.bool (kindB k)) ∧ w' = w := by
  have HE : Hid (kindB k = ((k == 1) || (k == 2) || (k == 6))) := rfl
  cases h1 : (k == 1) with
  | true =>
    go_enter Try.func70, Try.ntmps70
    go_wp2
    go_ret
    exact ⟨ret_bool (by rw [HE.out, h1]; rfl), rfl⟩
  | false =>
    cases h2 : (k == 2) with
    | true =>
      go_enter Try.func70, Try.ntmps70
      go_wp2
      go_ret
      exact ⟨ret_bool (by rw [HE.out, h1, h2]; rfl), rfl⟩
    | false =>
      go_enter Try.func70, Try.ntmps70
      go_wp2
      go_ret
      exact ⟨ret_bool (by rw [HE.out, h1, h2]; rfl), rfl⟩
theorem amongB_and (n lo hi : Int) : amongB n lo hi = (decide (lo ≤ n) && decide (n ≤ hi)) := rfl
set_option maxHeartbeats 800000 in
theorem headRight_any (h : HeadZ) (w : World) :
    Calls Try.prog 57 #[.agg (headA h)] w fun e w' => e = .returned (.bool (headRB h)) ∧ Below w.heap.size w w' := by
  have HE : Hid (headRB h = (kindB h.kind && (decide (0 ≤ h.age) && decide (h.age ≤ 3600) && rightI h.id && rightI h.adv && (h.adv != 0) && (decide (-2147483647 ≤ h.seq) && decide (h.seq ≤ 2147483647))))) := rfl
  generalize headRB h = R at *
  cases hk : kindB h.kind with
  | false =>
    go_enter Try.func57, Try.ntmps57
    go_wp2_with (first | (go_at_call 70; refine (rkind_any _ _).mono ?_; rintro e w' ⟨rfl, rfl⟩))
    all_goals go_ret
    all_goals exact ⟨ret_bool (by rw [HE.out, hk]; rfl), below_new' _ _⟩
  | true =>
    go_enter Try.func57, Try.ntmps57
    go_wp2_with (first | (go_at_call 70; refine (rkind_any _ _).mono ?_; rintro e w' ⟨rfl, rfl⟩) | (go_at_call 58; refine (rright_any _ _).mono ?_; rintro e w' ⟨rfl, rfl⟩))
    all_goals go_ret
    all_goals exact ⟨ret_bool (by rw [HE.out, hk]; first | (simp [*]; done) | (simp [*]; intros; omega)), below_new' _ _⟩
end Go.Proofs.Ytmcemhkhgccojaa
