/- Of one Seq and Sum: by the Ages: the walk of the law. -/
import Derived.Test.YtckehmjgimbepaaS7W4
import Derived.Deep.RegionHeld3
import Derived.Deep.Cut
namespace Go.Proofs.Ytckehmjgimbepaa
open Go.RowKit

/-- Three variables of the cells vs, all new. -/
def Three (w wx : World) (p q r : Nat) (vs : List Value) : Prop := w.heap.size ≤ p ∧ w.heap.size ≤ q ∧ w.heap.size ≤ r ∧ p ≠ q ∧ p ≠ r ∧ q ≠ r ∧ Var wx p vs ∧ Var wx q vs ∧ Var wx r vs ∧ Below w.heap.size w wx
theorem three_new (w : World) (o : Obj) (vs : List Value) (t : TypeId) : (∀ k, w.heap.size + 1 ≤ k → k ≤ w.heap.size + 1 + 1 + 1 → Var ((((w.alloc o).alloc (.cells vs.toArray t)).alloc (.cells vs.toArray t)).alloc (.cells vs.toArray t)).drew k vs) ∧ Below w.heap.size w ((((w.alloc o).alloc (.cells vs.toArray t)).alloc (.cells vs.toArray t)).alloc (.cells vs.toArray t)).drew := by
  constructor
  · intro k h1 h2
    have v1 := var_new (w.alloc o) vs t
    have v2 := var_new ((w.alloc o).alloc (.cells vs.toArray t)) vs t
    have v3 := var_new (((w.alloc o).alloc (.cells vs.toArray t)).alloc (.cells vs.toArray t)) vs t
    rw [size_new] at v1
    rw [size_new, size_new] at v2
    rw [size_new, size_new, size_new] at v3
    have e : k = w.heap.size + 1 ∨ k = w.heap.size + 1 + 1 ∨ k = w.heap.size + 1 + 1 + 1 := by omega
    rcases e with rfl | rfl | rfl
    · exact ((v1.alloc _).alloc _).drew
    · exact (v2.alloc _).drew
    · exact v3.drew
  · exact ((((below_new' w o).alloc (by simp) _).alloc (by simp; omega) _).alloc (by simp; omega) _).drew
theorem three_fin {w X : World} (p q r : Nat) (vs : List Value) (h : (∀ k, w.heap.size + 1 ≤ k → k ≤ w.heap.size + 1 + 1 + 1 → Var X k vs) ∧ Below w.heap.size w X) (hp : w.heap.size + 1 ≤ p ∧ p ≤ w.heap.size + 1 + 1 + 1) (hq : w.heap.size + 1 ≤ q ∧ q ≤ w.heap.size + 1 + 1 + 1 ∧ p ≠ q) (hr : w.heap.size + 1 ≤ r ∧ r ≤ w.heap.size + 1 + 1 + 1 ∧ p ≠ r ∧ q ≠ r) : Three w X p q r vs :=
  ⟨by omega, by omega, by omega, hq.2.2, hr.2.2.1, hr.2.2.2, h.1 p hp.1 hp.2, h.1 q hq.1 hq.2.1, h.1 r hr.1 hr.2.1, h.2⟩
theorem new_ages {x y s m : Int} (hx : 0 ≤ x ∧ x ≤ 3599) (hy : 0 ≤ y ∧ y ≤ 3599) : newI x s m y s m = if 900 < y - x then 1 else if 900 < x - y then -1 else 0 := by
  have e : endZ x = endZ y := by unfold endZ; rw [if_neg (by omega), if_neg (by omega)]
  rw [newI_same _ _ _ _ e]
  unfold apZ cmpZ
  (repeat' split) <;> omega
set_option maxHeartbeats 6400000 in
theorem newerAges_walk (a0 a1 a2 a3 a4 a5 a6 : Int) (x y : Int) (w : World) (ha : In64 a0) (hx : 0 ≤ x ∧ x ≤ 65535) (hy : 0 ≤ y ∧ y ≤ 65535) :
    Calls Try.prog 6 #[.agg #[.int .i64 a0, .int .i64 a1, .int .i64 a2, .int .i64 a3, .int .i64 a4, .int .i64 a5, .int .i64 a6], .int .u16 x, .int .u16 y] w fun e w' => e = .returned (.bool true) ∧ Below w.heap.size w w' := by
  have Ia : Hid (In64 a0) := ha
  clear ha
  have Va : Hid (Var (w.alloc (.cells #[.int .i64 a0, .int .i64 a1, .int .i64 a2, .int .i64 a3, .int .i64 a4, .int .i64 a5, .int .i64 a6] 23)) w.heap.size [.int .i64 a0, .int .i64 a1, .int .i64 a2, .int .i64 a3, .int .i64 a4, .int .i64 a5, .int .i64 a6]) := var_new w [.int .i64 a0, .int .i64 a1, .int .i64 a2, .int .i64 a3, .int .i64 a4, .int .i64 a5, .int .i64 a6] 23
  have HB : Hid (Below w.heap.size w (w.alloc (.cells #[.int .i64 a0, .int .i64 a1, .int .i64 a2, .int .i64 a3, .int .i64 a4, .int .i64 a5, .int .i64 a6] 23))) := below_new' _ _
  go_enter Try.func6, Try.ntmps6
  go_upto_region 1 with fail
  clear Va
  go_cut [7, 8, 9] from 10 (fun u v z wx => ∃ p q r : Nat, u = .pointer (some ⟨p, 0, none⟩) ∧ v = .pointer (some ⟨q, 0, none⟩) ∧ z = .pointer (some ⟨r, 0, none⟩) ∧ Hid (Three w wx p q r [.int .i64 a0, .int .i64 a1, .int .i64 a2, .int .i64 a3, .int .i64 a4, .int .i64 a5, .int .i64 a6]))
  case first =>
    go_big_region
    all_goals (go_wp2_with fail; go_meet)
    all_goals (case rel => exact ⟨_, _, _, rfl, rfl, rfl, three_fin _ _ _ _ (three_new w _ _ _) (by omega) (by omega) (by omega)⟩)
  case rest =>
  obtain ⟨p, q, r, rfl, rfl, rfl, H3⟩ := hcut
  obtain ⟨hp, hq, hr, npq, npr, nqr, VP, VQ, VR, HC⟩ := H3.out
  have HN : Hid (w.heap.size ≤ p ∧ w.heap.size ≤ q ∧ w.heap.size ≤ r ∧ p ≠ q ∧ p ≠ r ∧ q ≠ r) := ⟨hp, hq, hr, npq, npr, nqr⟩
  have XP : Hid (Var wc p [.int .i64 a0, .int .i64 a1, .int .i64 a2, .int .i64 a3, .int .i64 a4, .int .i64 a5, .int .i64 a6]) := VP
  have XQ : Hid (Var wc q [.int .i64 a0, .int .i64 a1, .int .i64 a2, .int .i64 a3, .int .i64 a4, .int .i64 a5, .int .i64 a6]) := VQ
  have XR : Hid (Var wc r [.int .i64 a0, .int .i64 a1, .int .i64 a2, .int .i64 a3, .int .i64 a4, .int .i64 a5, .int .i64 a6]) := VR
  replace HB : Hid (Below w.heap.size w wc) := HC
  clear hp hq hr npq npr nqr VP VQ VR HC H3
  obtain ⟨X, eX⟩ : ∃ X, x % 3600 = X := ⟨_, rfl⟩
  obtain ⟨Y, eY⟩ : ∃ Y, y % 3600 = Y := ⟨_, rfl⟩
  have hX : 0 ≤ X ∧ X ≤ 3599 := by omega
  have hY : 0 ≤ Y ∧ Y ≤ 3599 := by omega
  have cd := XP.out.cell 0 rfl
  have fz := XP.out.frozen 0
  replace XP : Hid (Var (wc.setCell ⟨p, 0, none⟩ (.int .i64 X)) p [.int .i64 X, .int .i64 a1, .int .i64 a2, .int .i64 a3, .int .i64 a4, .int .i64 a5, .int .i64 a6]) := XP.out.set 0 _
  replace XQ : Hid (Var (wc.setCell ⟨p, 0, none⟩ (.int .i64 X)) q [.int .i64 a0, .int .i64 a1, .int .i64 a2, .int .i64 a3, .int .i64 a4, .int .i64 a5, .int .i64 a6]) := XQ.out.other HN.out.2.2.2.1 _ _
  replace XR : Hid (Var (wc.setCell ⟨p, 0, none⟩ (.int .i64 X)) r [.int .i64 a0, .int .i64 a1, .int .i64 a2, .int .i64 a3, .int .i64 a4, .int .i64 a5, .int .i64 a6]) := XR.out.other HN.out.2.2.2.2.1 _ _
  replace HB : Hid (Below w.heap.size w (wc.setCell ⟨p, 0, none⟩ (.int .i64 X))) := HB.out.setCell HN.out.1 _
  go_upto_region 3 with fail
  rw [eX]
  generalize (wc.setCell ⟨p, 0, none⟩ (.int .i64 X)) = U0 at *
  clear cd fz
  have cd := XQ.out.cell 0 rfl
  have fz := XQ.out.frozen 0
  replace XP : Hid (Var (U0.setCell ⟨q, 0, none⟩ (.int .i64 Y)) p [.int .i64 X, .int .i64 a1, .int .i64 a2, .int .i64 a3, .int .i64 a4, .int .i64 a5, .int .i64 a6]) := XP.out.other (Ne.symm HN.out.2.2.2.1) _ _
  replace XQ : Hid (Var (U0.setCell ⟨q, 0, none⟩ (.int .i64 Y)) q [.int .i64 Y, .int .i64 a1, .int .i64 a2, .int .i64 a3, .int .i64 a4, .int .i64 a5, .int .i64 a6]) := XQ.out.set 0 _
  replace XR : Hid (Var (U0.setCell ⟨q, 0, none⟩ (.int .i64 Y)) r [.int .i64 a0, .int .i64 a1, .int .i64 a2, .int .i64 a3, .int .i64 a4, .int .i64 a5, .int .i64 a6]) := XR.out.other HN.out.2.2.2.2.2 _ _
  replace HB : Hid (Below w.heap.size w (U0.setCell ⟨q, 0, none⟩ (.int .i64 Y))) := HB.out.setCell HN.out.2.1 _
  go_upto_region 4 with fail
  rw [eY]
  generalize (U0.setCell ⟨q, 0, none⟩ (.int .i64 Y)) = U1 at *
  clear cd fz
  have cd := XR.out.cell 0 rfl
  have fz := XR.out.frozen 0
  replace XP : Hid (Var (U1.setCell ⟨r, 0, none⟩ (.int .i64 3600)) p [.int .i64 X, .int .i64 a1, .int .i64 a2, .int .i64 a3, .int .i64 a4, .int .i64 a5, .int .i64 a6]) := XP.out.other (Ne.symm HN.out.2.2.2.2.1) _ _
  replace XQ : Hid (Var (U1.setCell ⟨r, 0, none⟩ (.int .i64 3600)) q [.int .i64 Y, .int .i64 a1, .int .i64 a2, .int .i64 a3, .int .i64 a4, .int .i64 a5, .int .i64 a6]) := XQ.out.other (Ne.symm HN.out.2.2.2.2.2) _ _
  replace XR : Hid (Var (U1.setCell ⟨r, 0, none⟩ (.int .i64 3600)) r [.int .i64 3600, .int .i64 a1, .int .i64 a2, .int .i64 a3, .int .i64 a4, .int .i64 a5, .int .i64 a6]) := XR.out.set 0 _
  replace HB : Hid (Below w.heap.size w (U1.setCell ⟨r, 0, none⟩ (.int .i64 3600))) := HB.out.setCell HN.out.2.2.1 _
  go_upto_region 5 with fail
  generalize (U1.setCell ⟨r, 0, none⟩ (.int .i64 3600)) = U2 at *
  clear cd fz
  clear eX eY hx hy HN Ia
  have JX : Hid (In64 X) := by show In64 X; unfold In64; omega
  have JY : Hid (In64 Y) := by show In64 Y; unfold In64; omega
  have JO : Hid (In64 3600) := by show In64 3600; unfold In64; omega
  have NA : Hid (newI X a4 a5 Y a4 a5 = if 900 < Y - X then 1 else if 900 < X - Y then -1 else 0) := new_ages hX hY
  have NB : Hid (newI 3600 a4 a5 X a4 a5 = 1) := newI_ep _ _ _ _ (by omega) (by omega)
  have NC : Hid (newI Y a4 a5 3600 a4 a5 = -1) := newI_em _ _ _ _ (by omega) (by omega)
  have ND : Hid (newI 3600 a4 a5 3600 a4 a5 = 0) := newI_self _ _ _
  by_cases h1 : 900 < Y - X
  · replace NA : Hid (newI X a4 a5 Y a4 a5 = 1) := by have h := NA.out; rw [if_pos h1] at h; exact h
    have p0' := XP.out.cell 0 rfl
    have p1' := XP.out.cell 1 rfl
    have p2' := XP.out.cell 2 rfl
    have p3' := XP.out.cell 3 rfl
    have p4' := XP.out.cell 4 rfl
    have p5' := XP.out.cell 5 rfl
    have p6' := XP.out.cell 6 rfl
    have q0' := XQ.out.cell 0 rfl
    have q1' := XQ.out.cell 1 rfl
    have q2' := XQ.out.cell 2 rfl
    have q3' := XQ.out.cell 3 rfl
    have q4' := XQ.out.cell 4 rfl
    have q5' := XQ.out.cell 5 rfl
    have q6' := XQ.out.cell 6 rfl
    have r0' := XR.out.cell 0 rfl
    have r1' := XR.out.cell 1 rfl
    have r2' := XR.out.cell 2 rfl
    have r3' := XR.out.cell 3 rfl
    have r4' := XR.out.cell 4 rfl
    have r5' := XR.out.cell 5 rfl
    have r6' := XR.out.cell 6 rfl
    go_upto_region 10 with fail
    go_wp2_with fail
    refine (cmp_at _ _ _ _ _ _ _ _ _ _ _ _ _ _ _ NA.out JX.out JY.out _).mono ?_
    rintro e w1 ⟨rfl, hb⟩
    clear p0' p1' p2' p3' p4' p5' p6' q0' q1' q2' q3' q4' q5' q6' r0' r1' r2' r3' r4' r5' r6'
    replace HB : Hid (Below w.heap.size w w1) := below_more HB.out hb HB.out.size
    replace XP : Hid (Var w1 p [.int .i64 X, .int .i64 a1, .int .i64 a2, .int .i64 a3, .int .i64 a4, .int .i64 a5, .int .i64 a6]) := XP.out.below hb XP.out.lt
    replace XQ : Hid (Var w1 q [.int .i64 Y, .int .i64 a1, .int .i64 a2, .int .i64 a3, .int .i64 a4, .int .i64 a5, .int .i64 a6]) := XQ.out.below hb XQ.out.lt
    replace XR : Hid (Var w1 r [.int .i64 3600, .int .i64 a1, .int .i64 a2, .int .i64 a3, .int .i64 a4, .int .i64 a5, .int .i64 a6]) := XR.out.below hb XR.out.lt
    clear hb
    have p0' := XP.out.cell 0 rfl
    have p1' := XP.out.cell 1 rfl
    have p2' := XP.out.cell 2 rfl
    have p3' := XP.out.cell 3 rfl
    have p4' := XP.out.cell 4 rfl
    have p5' := XP.out.cell 5 rfl
    have p6' := XP.out.cell 6 rfl
    have q0' := XQ.out.cell 0 rfl
    have q1' := XQ.out.cell 1 rfl
    have q2' := XQ.out.cell 2 rfl
    have q3' := XQ.out.cell 3 rfl
    have q4' := XQ.out.cell 4 rfl
    have q5' := XQ.out.cell 5 rfl
    have q6' := XQ.out.cell 6 rfl
    have r0' := XR.out.cell 0 rfl
    have r1' := XR.out.cell 1 rfl
    have r2' := XR.out.cell 2 rfl
    have r3' := XR.out.cell 3 rfl
    have r4' := XR.out.cell 4 rfl
    have r5' := XR.out.cell 5 rfl
    have r6' := XR.out.cell 6 rfl
    go_wp2_with fail
    refine (cmp_at _ _ _ _ _ _ _ _ _ _ _ _ _ _ _ NB.out JO.out JX.out _).mono ?_
    rintro e w2 ⟨rfl, hb⟩
    clear p0' p1' p2' p3' p4' p5' p6' q0' q1' q2' q3' q4' q5' q6' r0' r1' r2' r3' r4' r5' r6'
    replace HB : Hid (Below w.heap.size w w2) := below_more HB.out hb HB.out.size
    replace XP : Hid (Var w2 p [.int .i64 X, .int .i64 a1, .int .i64 a2, .int .i64 a3, .int .i64 a4, .int .i64 a5, .int .i64 a6]) := XP.out.below hb XP.out.lt
    replace XQ : Hid (Var w2 q [.int .i64 Y, .int .i64 a1, .int .i64 a2, .int .i64 a3, .int .i64 a4, .int .i64 a5, .int .i64 a6]) := XQ.out.below hb XQ.out.lt
    replace XR : Hid (Var w2 r [.int .i64 3600, .int .i64 a1, .int .i64 a2, .int .i64 a3, .int .i64 a4, .int .i64 a5, .int .i64 a6]) := XR.out.below hb XR.out.lt
    clear hb
    have p0' := XP.out.cell 0 rfl
    have p1' := XP.out.cell 1 rfl
    have p2' := XP.out.cell 2 rfl
    have p3' := XP.out.cell 3 rfl
    have p4' := XP.out.cell 4 rfl
    have p5' := XP.out.cell 5 rfl
    have p6' := XP.out.cell 6 rfl
    have q0' := XQ.out.cell 0 rfl
    have q1' := XQ.out.cell 1 rfl
    have q2' := XQ.out.cell 2 rfl
    have q3' := XQ.out.cell 3 rfl
    have q4' := XQ.out.cell 4 rfl
    have q5' := XQ.out.cell 5 rfl
    have q6' := XQ.out.cell 6 rfl
    have r0' := XR.out.cell 0 rfl
    have r1' := XR.out.cell 1 rfl
    have r2' := XR.out.cell 2 rfl
    have r3' := XR.out.cell 3 rfl
    have r4' := XR.out.cell 4 rfl
    have r5' := XR.out.cell 5 rfl
    have r6' := XR.out.cell 6 rfl
    go_wp2_with fail
    refine (cmp_at _ _ _ _ _ _ _ _ _ _ _ _ _ _ _ NC.out JY.out JO.out _).mono ?_
    rintro e w3 ⟨rfl, hb⟩
    clear p0' p1' p2' p3' p4' p5' p6' q0' q1' q2' q3' q4' q5' q6' r0' r1' r2' r3' r4' r5' r6'
    replace HB : Hid (Below w.heap.size w w3) := below_more HB.out hb HB.out.size
    replace XP : Hid (Var w3 p [.int .i64 X, .int .i64 a1, .int .i64 a2, .int .i64 a3, .int .i64 a4, .int .i64 a5, .int .i64 a6]) := XP.out.below hb XP.out.lt
    replace XQ : Hid (Var w3 q [.int .i64 Y, .int .i64 a1, .int .i64 a2, .int .i64 a3, .int .i64 a4, .int .i64 a5, .int .i64 a6]) := XQ.out.below hb XQ.out.lt
    replace XR : Hid (Var w3 r [.int .i64 3600, .int .i64 a1, .int .i64 a2, .int .i64 a3, .int .i64 a4, .int .i64 a5, .int .i64 a6]) := XR.out.below hb XR.out.lt
    clear hb
    have p0' := XP.out.cell 0 rfl
    have p1' := XP.out.cell 1 rfl
    have p2' := XP.out.cell 2 rfl
    have p3' := XP.out.cell 3 rfl
    have p4' := XP.out.cell 4 rfl
    have p5' := XP.out.cell 5 rfl
    have p6' := XP.out.cell 6 rfl
    have q0' := XQ.out.cell 0 rfl
    have q1' := XQ.out.cell 1 rfl
    have q2' := XQ.out.cell 2 rfl
    have q3' := XQ.out.cell 3 rfl
    have q4' := XQ.out.cell 4 rfl
    have q5' := XQ.out.cell 5 rfl
    have q6' := XQ.out.cell 6 rfl
    have r0' := XR.out.cell 0 rfl
    have r1' := XR.out.cell 1 rfl
    have r2' := XR.out.cell 2 rfl
    have r3' := XR.out.cell 3 rfl
    have r4' := XR.out.cell 4 rfl
    have r5' := XR.out.cell 5 rfl
    have r6' := XR.out.cell 6 rfl
    go_wp2_with fail
    refine (cmp_at _ _ _ _ _ _ _ _ _ _ _ _ _ _ _ ND.out JO.out JO.out _).mono ?_
    rintro e w4 ⟨rfl, hb⟩
    clear p0' p1' p2' p3' p4' p5' p6' q0' q1' q2' q3' q4' q5' q6' r0' r1' r2' r3' r4' r5' r6'
    replace HB : Hid (Below w.heap.size w w4) := below_more HB.out hb HB.out.size
    replace XP : Hid (Var w4 p [.int .i64 X, .int .i64 a1, .int .i64 a2, .int .i64 a3, .int .i64 a4, .int .i64 a5, .int .i64 a6]) := XP.out.below hb XP.out.lt
    replace XQ : Hid (Var w4 q [.int .i64 Y, .int .i64 a1, .int .i64 a2, .int .i64 a3, .int .i64 a4, .int .i64 a5, .int .i64 a6]) := XQ.out.below hb XQ.out.lt
    replace XR : Hid (Var w4 r [.int .i64 3600, .int .i64 a1, .int .i64 a2, .int .i64 a3, .int .i64 a4, .int .i64 a5, .int .i64 a6]) := XR.out.below hb XR.out.lt
    clear hb
    have p0' := XP.out.cell 0 rfl
    have p1' := XP.out.cell 1 rfl
    have p2' := XP.out.cell 2 rfl
    have p3' := XP.out.cell 3 rfl
    have p4' := XP.out.cell 4 rfl
    have p5' := XP.out.cell 5 rfl
    have p6' := XP.out.cell 6 rfl
    have q0' := XQ.out.cell 0 rfl
    have q1' := XQ.out.cell 1 rfl
    have q2' := XQ.out.cell 2 rfl
    have q3' := XQ.out.cell 3 rfl
    have q4' := XQ.out.cell 4 rfl
    have q5' := XQ.out.cell 5 rfl
    have q6' := XQ.out.cell 6 rfl
    have r0' := XR.out.cell 0 rfl
    have r1' := XR.out.cell 1 rfl
    have r2' := XR.out.cell 2 rfl
    have r3' := XR.out.cell 3 rfl
    have r4' := XR.out.cell 4 rfl
    have r5' := XR.out.cell 5 rfl
    have r6' := XR.out.cell 6 rfl
    go_wp2_with fail
    refine (awake_any _).mono ?_
    rintro e w9 ⟨rfl, hb⟩
    go_wp2
    go_ret
    exact ⟨rfl, below_more HB.out hb HB.out.size⟩
  · by_cases h2 : 900 < X - Y
    · replace NA : Hid (newI X a4 a5 Y a4 a5 = -1) := by have h := NA.out; rw [if_neg h1, if_pos h2] at h; exact h
      have p0' := XP.out.cell 0 rfl
      have p1' := XP.out.cell 1 rfl
      have p2' := XP.out.cell 2 rfl
      have p3' := XP.out.cell 3 rfl
      have p4' := XP.out.cell 4 rfl
      have p5' := XP.out.cell 5 rfl
      have p6' := XP.out.cell 6 rfl
      have q0' := XQ.out.cell 0 rfl
      have q1' := XQ.out.cell 1 rfl
      have q2' := XQ.out.cell 2 rfl
      have q3' := XQ.out.cell 3 rfl
      have q4' := XQ.out.cell 4 rfl
      have q5' := XQ.out.cell 5 rfl
      have q6' := XQ.out.cell 6 rfl
      have r0' := XR.out.cell 0 rfl
      have r1' := XR.out.cell 1 rfl
      have r2' := XR.out.cell 2 rfl
      have r3' := XR.out.cell 3 rfl
      have r4' := XR.out.cell 4 rfl
      have r5' := XR.out.cell 5 rfl
      have r6' := XR.out.cell 6 rfl
      go_upto_region 10 with fail
      go_wp2_with fail
      refine (cmp_at _ _ _ _ _ _ _ _ _ _ _ _ _ _ _ NA.out JX.out JY.out _).mono ?_
      rintro e w1 ⟨rfl, hb⟩
      clear p0' p1' p2' p3' p4' p5' p6' q0' q1' q2' q3' q4' q5' q6' r0' r1' r2' r3' r4' r5' r6'
      replace HB : Hid (Below w.heap.size w w1) := below_more HB.out hb HB.out.size
      replace XP : Hid (Var w1 p [.int .i64 X, .int .i64 a1, .int .i64 a2, .int .i64 a3, .int .i64 a4, .int .i64 a5, .int .i64 a6]) := XP.out.below hb XP.out.lt
      replace XQ : Hid (Var w1 q [.int .i64 Y, .int .i64 a1, .int .i64 a2, .int .i64 a3, .int .i64 a4, .int .i64 a5, .int .i64 a6]) := XQ.out.below hb XQ.out.lt
      replace XR : Hid (Var w1 r [.int .i64 3600, .int .i64 a1, .int .i64 a2, .int .i64 a3, .int .i64 a4, .int .i64 a5, .int .i64 a6]) := XR.out.below hb XR.out.lt
      clear hb
      have p0' := XP.out.cell 0 rfl
      have p1' := XP.out.cell 1 rfl
      have p2' := XP.out.cell 2 rfl
      have p3' := XP.out.cell 3 rfl
      have p4' := XP.out.cell 4 rfl
      have p5' := XP.out.cell 5 rfl
      have p6' := XP.out.cell 6 rfl
      have q0' := XQ.out.cell 0 rfl
      have q1' := XQ.out.cell 1 rfl
      have q2' := XQ.out.cell 2 rfl
      have q3' := XQ.out.cell 3 rfl
      have q4' := XQ.out.cell 4 rfl
      have q5' := XQ.out.cell 5 rfl
      have q6' := XQ.out.cell 6 rfl
      have r0' := XR.out.cell 0 rfl
      have r1' := XR.out.cell 1 rfl
      have r2' := XR.out.cell 2 rfl
      have r3' := XR.out.cell 3 rfl
      have r4' := XR.out.cell 4 rfl
      have r5' := XR.out.cell 5 rfl
      have r6' := XR.out.cell 6 rfl
      go_wp2_with fail
      refine (cmp_at _ _ _ _ _ _ _ _ _ _ _ _ _ _ _ NB.out JO.out JX.out _).mono ?_
      rintro e w2 ⟨rfl, hb⟩
      clear p0' p1' p2' p3' p4' p5' p6' q0' q1' q2' q3' q4' q5' q6' r0' r1' r2' r3' r4' r5' r6'
      replace HB : Hid (Below w.heap.size w w2) := below_more HB.out hb HB.out.size
      replace XP : Hid (Var w2 p [.int .i64 X, .int .i64 a1, .int .i64 a2, .int .i64 a3, .int .i64 a4, .int .i64 a5, .int .i64 a6]) := XP.out.below hb XP.out.lt
      replace XQ : Hid (Var w2 q [.int .i64 Y, .int .i64 a1, .int .i64 a2, .int .i64 a3, .int .i64 a4, .int .i64 a5, .int .i64 a6]) := XQ.out.below hb XQ.out.lt
      replace XR : Hid (Var w2 r [.int .i64 3600, .int .i64 a1, .int .i64 a2, .int .i64 a3, .int .i64 a4, .int .i64 a5, .int .i64 a6]) := XR.out.below hb XR.out.lt
      clear hb
      have p0' := XP.out.cell 0 rfl
      have p1' := XP.out.cell 1 rfl
      have p2' := XP.out.cell 2 rfl
      have p3' := XP.out.cell 3 rfl
      have p4' := XP.out.cell 4 rfl
      have p5' := XP.out.cell 5 rfl
      have p6' := XP.out.cell 6 rfl
      have q0' := XQ.out.cell 0 rfl
      have q1' := XQ.out.cell 1 rfl
      have q2' := XQ.out.cell 2 rfl
      have q3' := XQ.out.cell 3 rfl
      have q4' := XQ.out.cell 4 rfl
      have q5' := XQ.out.cell 5 rfl
      have q6' := XQ.out.cell 6 rfl
      have r0' := XR.out.cell 0 rfl
      have r1' := XR.out.cell 1 rfl
      have r2' := XR.out.cell 2 rfl
      have r3' := XR.out.cell 3 rfl
      have r4' := XR.out.cell 4 rfl
      have r5' := XR.out.cell 5 rfl
      have r6' := XR.out.cell 6 rfl
      go_wp2_with fail
      refine (cmp_at _ _ _ _ _ _ _ _ _ _ _ _ _ _ _ NC.out JY.out JO.out _).mono ?_
      rintro e w3 ⟨rfl, hb⟩
      clear p0' p1' p2' p3' p4' p5' p6' q0' q1' q2' q3' q4' q5' q6' r0' r1' r2' r3' r4' r5' r6'
      replace HB : Hid (Below w.heap.size w w3) := below_more HB.out hb HB.out.size
      replace XP : Hid (Var w3 p [.int .i64 X, .int .i64 a1, .int .i64 a2, .int .i64 a3, .int .i64 a4, .int .i64 a5, .int .i64 a6]) := XP.out.below hb XP.out.lt
      replace XQ : Hid (Var w3 q [.int .i64 Y, .int .i64 a1, .int .i64 a2, .int .i64 a3, .int .i64 a4, .int .i64 a5, .int .i64 a6]) := XQ.out.below hb XQ.out.lt
      replace XR : Hid (Var w3 r [.int .i64 3600, .int .i64 a1, .int .i64 a2, .int .i64 a3, .int .i64 a4, .int .i64 a5, .int .i64 a6]) := XR.out.below hb XR.out.lt
      clear hb
      have p0' := XP.out.cell 0 rfl
      have p1' := XP.out.cell 1 rfl
      have p2' := XP.out.cell 2 rfl
      have p3' := XP.out.cell 3 rfl
      have p4' := XP.out.cell 4 rfl
      have p5' := XP.out.cell 5 rfl
      have p6' := XP.out.cell 6 rfl
      have q0' := XQ.out.cell 0 rfl
      have q1' := XQ.out.cell 1 rfl
      have q2' := XQ.out.cell 2 rfl
      have q3' := XQ.out.cell 3 rfl
      have q4' := XQ.out.cell 4 rfl
      have q5' := XQ.out.cell 5 rfl
      have q6' := XQ.out.cell 6 rfl
      have r0' := XR.out.cell 0 rfl
      have r1' := XR.out.cell 1 rfl
      have r2' := XR.out.cell 2 rfl
      have r3' := XR.out.cell 3 rfl
      have r4' := XR.out.cell 4 rfl
      have r5' := XR.out.cell 5 rfl
      have r6' := XR.out.cell 6 rfl
      go_wp2_with fail
      refine (cmp_at _ _ _ _ _ _ _ _ _ _ _ _ _ _ _ ND.out JO.out JO.out _).mono ?_
      rintro e w4 ⟨rfl, hb⟩
      clear p0' p1' p2' p3' p4' p5' p6' q0' q1' q2' q3' q4' q5' q6' r0' r1' r2' r3' r4' r5' r6'
      replace HB : Hid (Below w.heap.size w w4) := below_more HB.out hb HB.out.size
      replace XP : Hid (Var w4 p [.int .i64 X, .int .i64 a1, .int .i64 a2, .int .i64 a3, .int .i64 a4, .int .i64 a5, .int .i64 a6]) := XP.out.below hb XP.out.lt
      replace XQ : Hid (Var w4 q [.int .i64 Y, .int .i64 a1, .int .i64 a2, .int .i64 a3, .int .i64 a4, .int .i64 a5, .int .i64 a6]) := XQ.out.below hb XQ.out.lt
      replace XR : Hid (Var w4 r [.int .i64 3600, .int .i64 a1, .int .i64 a2, .int .i64 a3, .int .i64 a4, .int .i64 a5, .int .i64 a6]) := XR.out.below hb XR.out.lt
      clear hb
      have p0' := XP.out.cell 0 rfl
      have p1' := XP.out.cell 1 rfl
      have p2' := XP.out.cell 2 rfl
      have p3' := XP.out.cell 3 rfl
      have p4' := XP.out.cell 4 rfl
      have p5' := XP.out.cell 5 rfl
      have p6' := XP.out.cell 6 rfl
      have q0' := XQ.out.cell 0 rfl
      have q1' := XQ.out.cell 1 rfl
      have q2' := XQ.out.cell 2 rfl
      have q3' := XQ.out.cell 3 rfl
      have q4' := XQ.out.cell 4 rfl
      have q5' := XQ.out.cell 5 rfl
      have q6' := XQ.out.cell 6 rfl
      have r0' := XR.out.cell 0 rfl
      have r1' := XR.out.cell 1 rfl
      have r2' := XR.out.cell 2 rfl
      have r3' := XR.out.cell 3 rfl
      have r4' := XR.out.cell 4 rfl
      have r5' := XR.out.cell 5 rfl
      have r6' := XR.out.cell 6 rfl
      go_wp2_with fail
      refine (awake_any _).mono ?_
      rintro e w9 ⟨rfl, hb⟩
      go_wp2
      go_ret
      exact ⟨rfl, below_more HB.out hb HB.out.size⟩
    · replace NA : Hid (newI X a4 a5 Y a4 a5 = 0) := by have h := NA.out; rw [if_neg h1, if_neg h2] at h; exact h
      have p0' := XP.out.cell 0 rfl
      have p1' := XP.out.cell 1 rfl
      have p2' := XP.out.cell 2 rfl
      have p3' := XP.out.cell 3 rfl
      have p4' := XP.out.cell 4 rfl
      have p5' := XP.out.cell 5 rfl
      have p6' := XP.out.cell 6 rfl
      have q0' := XQ.out.cell 0 rfl
      have q1' := XQ.out.cell 1 rfl
      have q2' := XQ.out.cell 2 rfl
      have q3' := XQ.out.cell 3 rfl
      have q4' := XQ.out.cell 4 rfl
      have q5' := XQ.out.cell 5 rfl
      have q6' := XQ.out.cell 6 rfl
      have r0' := XR.out.cell 0 rfl
      have r1' := XR.out.cell 1 rfl
      have r2' := XR.out.cell 2 rfl
      have r3' := XR.out.cell 3 rfl
      have r4' := XR.out.cell 4 rfl
      have r5' := XR.out.cell 5 rfl
      have r6' := XR.out.cell 6 rfl
      go_upto_region 10 with fail
      go_wp2_with fail
      refine (cmp_at _ _ _ _ _ _ _ _ _ _ _ _ _ _ _ NA.out JX.out JY.out _).mono ?_
      rintro e w1 ⟨rfl, hb⟩
      clear p0' p1' p2' p3' p4' p5' p6' q0' q1' q2' q3' q4' q5' q6' r0' r1' r2' r3' r4' r5' r6'
      replace HB : Hid (Below w.heap.size w w1) := below_more HB.out hb HB.out.size
      replace XP : Hid (Var w1 p [.int .i64 X, .int .i64 a1, .int .i64 a2, .int .i64 a3, .int .i64 a4, .int .i64 a5, .int .i64 a6]) := XP.out.below hb XP.out.lt
      replace XQ : Hid (Var w1 q [.int .i64 Y, .int .i64 a1, .int .i64 a2, .int .i64 a3, .int .i64 a4, .int .i64 a5, .int .i64 a6]) := XQ.out.below hb XQ.out.lt
      replace XR : Hid (Var w1 r [.int .i64 3600, .int .i64 a1, .int .i64 a2, .int .i64 a3, .int .i64 a4, .int .i64 a5, .int .i64 a6]) := XR.out.below hb XR.out.lt
      clear hb
      have p0' := XP.out.cell 0 rfl
      have p1' := XP.out.cell 1 rfl
      have p2' := XP.out.cell 2 rfl
      have p3' := XP.out.cell 3 rfl
      have p4' := XP.out.cell 4 rfl
      have p5' := XP.out.cell 5 rfl
      have p6' := XP.out.cell 6 rfl
      have q0' := XQ.out.cell 0 rfl
      have q1' := XQ.out.cell 1 rfl
      have q2' := XQ.out.cell 2 rfl
      have q3' := XQ.out.cell 3 rfl
      have q4' := XQ.out.cell 4 rfl
      have q5' := XQ.out.cell 5 rfl
      have q6' := XQ.out.cell 6 rfl
      have r0' := XR.out.cell 0 rfl
      have r1' := XR.out.cell 1 rfl
      have r2' := XR.out.cell 2 rfl
      have r3' := XR.out.cell 3 rfl
      have r4' := XR.out.cell 4 rfl
      have r5' := XR.out.cell 5 rfl
      have r6' := XR.out.cell 6 rfl
      go_wp2_with fail
      refine (cmp_at _ _ _ _ _ _ _ _ _ _ _ _ _ _ _ NB.out JO.out JX.out _).mono ?_
      rintro e w2 ⟨rfl, hb⟩
      clear p0' p1' p2' p3' p4' p5' p6' q0' q1' q2' q3' q4' q5' q6' r0' r1' r2' r3' r4' r5' r6'
      replace HB : Hid (Below w.heap.size w w2) := below_more HB.out hb HB.out.size
      replace XP : Hid (Var w2 p [.int .i64 X, .int .i64 a1, .int .i64 a2, .int .i64 a3, .int .i64 a4, .int .i64 a5, .int .i64 a6]) := XP.out.below hb XP.out.lt
      replace XQ : Hid (Var w2 q [.int .i64 Y, .int .i64 a1, .int .i64 a2, .int .i64 a3, .int .i64 a4, .int .i64 a5, .int .i64 a6]) := XQ.out.below hb XQ.out.lt
      replace XR : Hid (Var w2 r [.int .i64 3600, .int .i64 a1, .int .i64 a2, .int .i64 a3, .int .i64 a4, .int .i64 a5, .int .i64 a6]) := XR.out.below hb XR.out.lt
      clear hb
      have p0' := XP.out.cell 0 rfl
      have p1' := XP.out.cell 1 rfl
      have p2' := XP.out.cell 2 rfl
      have p3' := XP.out.cell 3 rfl
      have p4' := XP.out.cell 4 rfl
      have p5' := XP.out.cell 5 rfl
      have p6' := XP.out.cell 6 rfl
      have q0' := XQ.out.cell 0 rfl
      have q1' := XQ.out.cell 1 rfl
      have q2' := XQ.out.cell 2 rfl
      have q3' := XQ.out.cell 3 rfl
      have q4' := XQ.out.cell 4 rfl
      have q5' := XQ.out.cell 5 rfl
      have q6' := XQ.out.cell 6 rfl
      have r0' := XR.out.cell 0 rfl
      have r1' := XR.out.cell 1 rfl
      have r2' := XR.out.cell 2 rfl
      have r3' := XR.out.cell 3 rfl
      have r4' := XR.out.cell 4 rfl
      have r5' := XR.out.cell 5 rfl
      have r6' := XR.out.cell 6 rfl
      go_wp2_with fail
      refine (cmp_at _ _ _ _ _ _ _ _ _ _ _ _ _ _ _ NC.out JY.out JO.out _).mono ?_
      rintro e w3 ⟨rfl, hb⟩
      clear p0' p1' p2' p3' p4' p5' p6' q0' q1' q2' q3' q4' q5' q6' r0' r1' r2' r3' r4' r5' r6'
      replace HB : Hid (Below w.heap.size w w3) := below_more HB.out hb HB.out.size
      replace XP : Hid (Var w3 p [.int .i64 X, .int .i64 a1, .int .i64 a2, .int .i64 a3, .int .i64 a4, .int .i64 a5, .int .i64 a6]) := XP.out.below hb XP.out.lt
      replace XQ : Hid (Var w3 q [.int .i64 Y, .int .i64 a1, .int .i64 a2, .int .i64 a3, .int .i64 a4, .int .i64 a5, .int .i64 a6]) := XQ.out.below hb XQ.out.lt
      replace XR : Hid (Var w3 r [.int .i64 3600, .int .i64 a1, .int .i64 a2, .int .i64 a3, .int .i64 a4, .int .i64 a5, .int .i64 a6]) := XR.out.below hb XR.out.lt
      clear hb
      have p0' := XP.out.cell 0 rfl
      have p1' := XP.out.cell 1 rfl
      have p2' := XP.out.cell 2 rfl
      have p3' := XP.out.cell 3 rfl
      have p4' := XP.out.cell 4 rfl
      have p5' := XP.out.cell 5 rfl
      have p6' := XP.out.cell 6 rfl
      have q0' := XQ.out.cell 0 rfl
      have q1' := XQ.out.cell 1 rfl
      have q2' := XQ.out.cell 2 rfl
      have q3' := XQ.out.cell 3 rfl
      have q4' := XQ.out.cell 4 rfl
      have q5' := XQ.out.cell 5 rfl
      have q6' := XQ.out.cell 6 rfl
      have r0' := XR.out.cell 0 rfl
      have r1' := XR.out.cell 1 rfl
      have r2' := XR.out.cell 2 rfl
      have r3' := XR.out.cell 3 rfl
      have r4' := XR.out.cell 4 rfl
      have r5' := XR.out.cell 5 rfl
      have r6' := XR.out.cell 6 rfl
      go_wp2_with fail
      refine (cmp_at _ _ _ _ _ _ _ _ _ _ _ _ _ _ _ ND.out JO.out JO.out _).mono ?_
      rintro e w4 ⟨rfl, hb⟩
      clear p0' p1' p2' p3' p4' p5' p6' q0' q1' q2' q3' q4' q5' q6' r0' r1' r2' r3' r4' r5' r6'
      replace HB : Hid (Below w.heap.size w w4) := below_more HB.out hb HB.out.size
      replace XP : Hid (Var w4 p [.int .i64 X, .int .i64 a1, .int .i64 a2, .int .i64 a3, .int .i64 a4, .int .i64 a5, .int .i64 a6]) := XP.out.below hb XP.out.lt
      replace XQ : Hid (Var w4 q [.int .i64 Y, .int .i64 a1, .int .i64 a2, .int .i64 a3, .int .i64 a4, .int .i64 a5, .int .i64 a6]) := XQ.out.below hb XQ.out.lt
      replace XR : Hid (Var w4 r [.int .i64 3600, .int .i64 a1, .int .i64 a2, .int .i64 a3, .int .i64 a4, .int .i64 a5, .int .i64 a6]) := XR.out.below hb XR.out.lt
      clear hb
      have p0' := XP.out.cell 0 rfl
      have p1' := XP.out.cell 1 rfl
      have p2' := XP.out.cell 2 rfl
      have p3' := XP.out.cell 3 rfl
      have p4' := XP.out.cell 4 rfl
      have p5' := XP.out.cell 5 rfl
      have p6' := XP.out.cell 6 rfl
      have q0' := XQ.out.cell 0 rfl
      have q1' := XQ.out.cell 1 rfl
      have q2' := XQ.out.cell 2 rfl
      have q3' := XQ.out.cell 3 rfl
      have q4' := XQ.out.cell 4 rfl
      have q5' := XQ.out.cell 5 rfl
      have q6' := XQ.out.cell 6 rfl
      have r0' := XR.out.cell 0 rfl
      have r1' := XR.out.cell 1 rfl
      have r2' := XR.out.cell 2 rfl
      have r3' := XR.out.cell 3 rfl
      have r4' := XR.out.cell 4 rfl
      have r5' := XR.out.cell 5 rfl
      have r6' := XR.out.cell 6 rfl
      go_wp2_with fail
      refine (awake_any _).mono ?_
      rintro e w9 ⟨rfl, hb⟩
      go_wp2
      go_ret
      exact ⟨rfl, below_more HB.out hb HB.out.size⟩
end Go.Proofs.Ytckehmjgimbepaa
