/- The document's election: who is better, who claims what, the best, whether anybody claims. -/
import Derived.Test.YtioimebfenklkaaE10O
namespace Go.Proofs.Ytioimebfenklkaa
open Go.RowKit
set_option linter.unusedVariables false

def bettB (a b : CandZ) : Bool := decide (b.prio < a.prio ∨ (a.prio = b.prio ∧ (b.id < a.id ∨ (a.id = b.id ∧ b.addr < a.addr))))
def claimZ (c : CandZ) : Int := if c.dr = c.addr then 1 else if c.bdr = c.addr then 2 else 0
def qB (claim : Int) (other : Bool) (x : CandZ) : Bool := decide (0 < x.prio) && ((claimZ x == claim) != other)
theorem bett_yes {a b : CandZ} (h : bettB a b = true) : LeC b a := by
  have := of_decide_eq_true h
  unfold LeC; omega
theorem bett_no {a b : CandZ} (h : bettB a b = false) : LeC a b := by
  have := of_decide_eq_false h
  unfold LeC; omega
theorem put_lit (l : List Value) (ds : List Deferred) (d : Nat) (v : Value) : Act.put ⟨⟨l⟩, ds⟩ (some d) v = ⟨⟨l.set d v⟩, ds⟩ := by simp [Act.put]
set_option maxHeartbeats 800000 in
theorem rbetter_any (a b : CandZ) (w : World) : Calls Try.prog 24 #[.agg (candA a), .agg (candA b)] w fun e w' => e = .returned (.bool (bettB a b)) ∧ Below w.heap.size w w' := by
  obtain ⟨hX, hY⟩ := two_vars w (candC a) (candC b) 23 23
  have HX : Hid (Var ((w.alloc (.cells (candA a) 23)).alloc (.cells (candA b) 23)) w.heap.size (candC a)) := hX
  have HY : Hid (Var ((w.alloc (.cells (candA a) 23)).alloc (.cells (candA b) 23)) (w.heap.size + 1) (candC b)) := hY
  have HB : Hid (Below w.heap.size w ((w.alloc (.cells (candA a) 23)).alloc (.cells (candA b) 23))) := (below_new' _ _).alloc (by simp) _
  have HD : Hid (bettB a b = decide (b.prio < a.prio ∨ (a.prio = b.prio ∧ (b.id < a.id ∨ (a.id = b.id ∧ b.addr < a.addr))))) := rfl
  generalize bettB a b = R at *
  clear hX hY
  go_enter Try.func24, Try.ntmps24
  go_upto_region 1 with fail
  generalize (w.alloc (.cells (candA a) 23)).alloc (.cells (candA b) 23) = W at *
  have c0 := HX.out.cell 0 rfl
  have c1 := HX.out.cell 1 rfl
  have c2 := HX.out.cell 2 rfl
  have d0 := HY.out.cell 0 rfl
  have d1 := HY.out.cell 1 rfl
  have d2 := HY.out.cell 2 rfl
  by_cases h1 : a.prio = b.prio
  · by_cases h2 : a.id = b.id
    · have e1 : (a.prio != b.prio) = false := by simp [h1]
      have e2 : (a.id != b.id) = false := by simp [h2]
      have HR : Hid (R = decide (b.addr < a.addr)) := HD.out.trans (decide_eq_decide.2 ⟨fun h => by omega, fun h => by omega⟩)
      clear h1 h2 HD
      go_wp2
      go_ret
      exact ⟨ret_bool HR.out.symm, HB.out⟩
    · have e1 : (a.prio != b.prio) = false := by simp [h1]
      have e2 : (a.id != b.id) = true := by simp [h2]
      have HR : Hid (R = decide (b.id < a.id)) := HD.out.trans (decide_eq_decide.2 ⟨fun h => by omega, fun h => by omega⟩)
      clear h1 h2 HD
      go_wp2
      go_ret
      exact ⟨ret_bool HR.out.symm, HB.out⟩
  · have e1 : (a.prio != b.prio) = true := by simp [h1]
    have HR : Hid (R = decide (b.prio < a.prio)) := HD.out.trans (decide_eq_decide.2 ⟨fun h => by omega, fun h => by omega⟩)
    clear h1 HD
    go_wp2
    go_ret
    exact ⟨ret_bool HR.out.symm, HB.out⟩
set_option maxHeartbeats 800000 in
theorem rclaims_any (c : CandZ) (v : Int) (hv : claimZ c = v) (w : World) : Calls Try.prog 23 #[.agg (candA c)] w fun e w' => e = .returned (.int .i64 v) ∧ Below w.heap.size w w' := by
  have HB : Hid (Below w.heap.size w (w.alloc (.cells (candA c) 23))) := below_new' _ _
  unfold claimZ at hv
  by_cases h1 : c.dr = c.addr
  · rw [if_pos h1] at hv
    subst hv
    have e1 : (c.dr == c.addr) = true := by simpa using h1
    clear h1
    go_enter Try.func23, Try.ntmps23
    go_wp2
    go_ret
    exact ⟨rfl, HB.out⟩
  · rw [if_neg h1] at hv
    by_cases h2 : c.bdr = c.addr
    · rw [if_pos h2] at hv
      subst hv
      have e2 : (c.bdr == c.addr) = true := by simpa using h2
      clear h2
      go_enter Try.func23, Try.ntmps23
      go_wp2
      go_ret
      exact ⟨rfl, HB.out⟩
    · rw [if_neg h2] at hv
      subst hv
      go_enter Try.func23, Try.ntmps23
      go_wp2
      go_ret
      exact ⟨rfl, HB.out⟩
end Go.Proofs.Ytioimebfenklkaa
