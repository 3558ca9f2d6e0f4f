/- Nothing but Seq, Sum and Age is asked: the walk of the law. -/
import Derived.Test.YtphjffagjjkeeaaS7W4
import Derived.Deep.RegionHeld3
namespace Go.Proofs.Ytphjffagjjkeeaa
open Go.RowKit

set_option maxHeartbeats 6400000 in
theorem newerOnly_walk (a0 a1 a2 a3 a4 a5 a6 b0 b1 b2 b3 b4 b5 b6 c0 c1 c2 c3 c4 c5 c6 : Int) (w : World) (ha : In64 a0) (hb : In64 b0) (hc : In64 c0) :
    Calls Try.prog 4 #[.agg #[.int .i64 a0, .int .i64 a1, .int .i64 a2, .int .i64 a3, .int .i64 a4, .int .i64 a5, .int .i64 a6], .agg #[.int .i64 b0, .int .i64 b1, .int .i64 b2, .int .i64 b3, .int .i64 b4, .int .i64 b5, .int .i64 b6], .agg #[.int .i64 c0, .int .i64 c1, .int .i64 c2, .int .i64 c3, .int .i64 c4, .int .i64 c5, .int .i64 c6]] w fun e w' => e = .returned (.bool true) ∧ Below w.heap.size w w' := by
  have Ia : Hid (In64 a0) := ha
  have Ib : Hid (In64 b0) := hb
  have Ic : Hid (In64 c0) := hc
  clear ha hb hc
  have Va : Hid (Var (((w.alloc (.cells #[.int .i64 a0, .int .i64 a1, .int .i64 a2, .int .i64 a3, .int .i64 a4, .int .i64 a5, .int .i64 a6] 23)).alloc (.cells #[.int .i64 b0, .int .i64 b1, .int .i64 b2, .int .i64 b3, .int .i64 b4, .int .i64 b5, .int .i64 b6] 23)).alloc (.cells #[.int .i64 c0, .int .i64 c1, .int .i64 c2, .int .i64 c3, .int .i64 c4, .int .i64 c5, .int .i64 c6] 23)) (w.heap.size) [.int .i64 a0, .int .i64 a1, .int .i64 a2, .int .i64 a3, .int .i64 a4, .int .i64 a5, .int .i64 a6]) := by
    have h0 := var_new w [.int .i64 a0, .int .i64 a1, .int .i64 a2, .int .i64 a3, .int .i64 a4, .int .i64 a5, .int .i64 a6] 23
    exact h0 |>.alloc _ |>.alloc _
  have Vb : Hid (Var (((w.alloc (.cells #[.int .i64 a0, .int .i64 a1, .int .i64 a2, .int .i64 a3, .int .i64 a4, .int .i64 a5, .int .i64 a6] 23)).alloc (.cells #[.int .i64 b0, .int .i64 b1, .int .i64 b2, .int .i64 b3, .int .i64 b4, .int .i64 b5, .int .i64 b6] 23)).alloc (.cells #[.int .i64 c0, .int .i64 c1, .int .i64 c2, .int .i64 c3, .int .i64 c4, .int .i64 c5, .int .i64 c6] 23)) (w.heap.size + 1) [.int .i64 b0, .int .i64 b1, .int .i64 b2, .int .i64 b3, .int .i64 b4, .int .i64 b5, .int .i64 b6]) := by
    have h0 := var_new (w.alloc (.cells #[.int .i64 a0, .int .i64 a1, .int .i64 a2, .int .i64 a3, .int .i64 a4, .int .i64 a5, .int .i64 a6] 23)) [.int .i64 b0, .int .i64 b1, .int .i64 b2, .int .i64 b3, .int .i64 b4, .int .i64 b5, .int .i64 b6] 23
    rw [size_new] at h0
    exact h0 |>.alloc _
  have Vc : Hid (Var (((w.alloc (.cells #[.int .i64 a0, .int .i64 a1, .int .i64 a2, .int .i64 a3, .int .i64 a4, .int .i64 a5, .int .i64 a6] 23)).alloc (.cells #[.int .i64 b0, .int .i64 b1, .int .i64 b2, .int .i64 b3, .int .i64 b4, .int .i64 b5, .int .i64 b6] 23)).alloc (.cells #[.int .i64 c0, .int .i64 c1, .int .i64 c2, .int .i64 c3, .int .i64 c4, .int .i64 c5, .int .i64 c6] 23)) (w.heap.size + 1 + 1) [.int .i64 c0, .int .i64 c1, .int .i64 c2, .int .i64 c3, .int .i64 c4, .int .i64 c5, .int .i64 c6]) := by
    have h0 := var_new ((w.alloc (.cells #[.int .i64 a0, .int .i64 a1, .int .i64 a2, .int .i64 a3, .int .i64 a4, .int .i64 a5, .int .i64 a6] 23)).alloc (.cells #[.int .i64 b0, .int .i64 b1, .int .i64 b2, .int .i64 b3, .int .i64 b4, .int .i64 b5, .int .i64 b6] 23)) [.int .i64 c0, .int .i64 c1, .int .i64 c2, .int .i64 c3, .int .i64 c4, .int .i64 c5, .int .i64 c6] 23
    rw [size_new, size_new] at h0
    exact h0
  have HB : Hid (Below w.heap.size w (((w.alloc (.cells #[.int .i64 a0, .int .i64 a1, .int .i64 a2, .int .i64 a3, .int .i64 a4, .int .i64 a5, .int .i64 a6] 23)).alloc (.cells #[.int .i64 b0, .int .i64 b1, .int .i64 b2, .int .i64 b3, .int .i64 b4, .int .i64 b5, .int .i64 b6] 23)).alloc (.cells #[.int .i64 c0, .int .i64 c1, .int .i64 c2, .int .i64 c3, .int .i64 c4, .int .i64 c5, .int .i64 c6] 23))) := (((below_new' _ _).alloc (by simp) _).alloc (by simp; omega) _)
  go_enter Try.func4, Try.ntmps4
  go_upto_region 1 with fail
  generalize (((w.alloc (.cells #[.int .i64 a0, .int .i64 a1, .int .i64 a2, .int .i64 a3, .int .i64 a4, .int .i64 a5, .int .i64 a6] 23)).alloc (.cells #[.int .i64 b0, .int .i64 b1, .int .i64 b2, .int .i64 b3, .int .i64 b4, .int .i64 b5, .int .i64 b6] 23)).alloc (.cells #[.int .i64 c0, .int .i64 c1, .int .i64 c2, .int .i64 c3, .int .i64 c4, .int .i64 c5, .int .i64 c6] 23)) = V at *
  have c0' := Vc.out.cell 0 rfl
  have c1' := Vc.out.cell 1 rfl
  have c2' := Vc.out.cell 2 rfl
  have c3' := Vc.out.cell 3 rfl
  have c4' := Vc.out.cell 4 rfl
  have c5' := Vc.out.cell 5 rfl
  have c6' := Vc.out.cell 6 rfl
  have XA : Hid (Var (V.alloc (.cells #[.int .i64 c0, .int .i64 c1, .int .i64 c2, .int .i64 c3, .int .i64 c4, .int .i64 c5, .int .i64 c6] 23)) w.heap.size [.int .i64 a0, .int .i64 a1, .int .i64 a2, .int .i64 a3, .int .i64 a4, .int .i64 a5, .int .i64 a6]) := Va.out.alloc _
  have XB : Hid (Var (V.alloc (.cells #[.int .i64 c0, .int .i64 c1, .int .i64 c2, .int .i64 c3, .int .i64 c4, .int .i64 c5, .int .i64 c6] 23)) (w.heap.size + 1) [.int .i64 b0, .int .i64 b1, .int .i64 b2, .int .i64 b3, .int .i64 b4, .int .i64 b5, .int .i64 b6]) := Vb.out.alloc _
  have XD : Hid (Var (V.alloc (.cells #[.int .i64 c0, .int .i64 c1, .int .i64 c2, .int .i64 c3, .int .i64 c4, .int .i64 c5, .int .i64 c6] 23)) V.heap.size [.int .i64 c0, .int .i64 c1, .int .i64 c2, .int .i64 c3, .int .i64 c4, .int .i64 c5, .int .i64 c6]) := var_new V [.int .i64 c0, .int .i64 c1, .int .i64 c2, .int .i64 c3, .int .i64 c4, .int .i64 c5, .int .i64 c6] _
  have HX : Hid (V.heap.size ≠ w.heap.size ∧ V.heap.size ≠ w.heap.size + 1 ∧ w.heap.size ≤ V.heap.size) := ⟨by have := Va.out.lt; omega, by have := Vb.out.lt; omega, HB.out.size⟩
  replace HB : Hid (Below w.heap.size w (V.alloc (.cells #[.int .i64 c0, .int .i64 c1, .int .i64 c2, .int .i64 c3, .int .i64 c4, .int .i64 c5, .int .i64 c6] 23))) := HB.out.alloc HB.out.size _
  go_upto_region 2 with fail
  generalize (V.alloc (.cells #[.int .i64 c0, .int .i64 c1, .int .i64 c2, .int .i64 c3, .int .i64 c4, .int .i64 c5, .int .i64 c6] 23)) = U0 at *
  clear c0' c1' c2' c3' c4' c5' c6' Va Vb Vc
  generalize V.heap.size = nD at *
  have ca := XA.out.cell 0 rfl
  have cd := XD.out.cell 0 rfl
  have fz := XD.out.frozen 0
  replace XA : Hid (Var (U0.setCell ⟨nD, 0, none⟩ (.int .i64 a0)) w.heap.size [.int .i64 a0, .int .i64 a1, .int .i64 a2, .int .i64 a3, .int .i64 a4, .int .i64 a5, .int .i64 a6]) := XA.out.other HX.out.1 _ _
  replace XB : Hid (Var (U0.setCell ⟨nD, 0, none⟩ (.int .i64 a0)) (w.heap.size + 1) [.int .i64 b0, .int .i64 b1, .int .i64 b2, .int .i64 b3, .int .i64 b4, .int .i64 b5, .int .i64 b6]) := XB.out.other HX.out.2.1 _ _
  replace XD : Hid (Var (U0.setCell ⟨nD, 0, none⟩ (.int .i64 a0)) nD [.int .i64 a0, .int .i64 c1, .int .i64 c2, .int .i64 c3, .int .i64 c4, .int .i64 c5, .int .i64 c6]) := XD.out.set 0 _
  replace HB : Hid (Below w.heap.size w (U0.setCell ⟨nD, 0, none⟩ (.int .i64 a0))) := HB.out.setCell HX.out.2.2 _
  go_upto_region 3 with fail
  generalize (U0.setCell ⟨nD, 0, none⟩ (.int .i64 a0)) = U1 at *
  clear ca cd fz
  have ca := XA.out.cell 4 rfl
  have cd := XD.out.cell 4 rfl
  have fz := XD.out.frozen 4
  replace XA : Hid (Var (U1.setCell ⟨nD, 4, none⟩ (.int .i64 a4)) w.heap.size [.int .i64 a0, .int .i64 a1, .int .i64 a2, .int .i64 a3, .int .i64 a4, .int .i64 a5, .int .i64 a6]) := XA.out.other HX.out.1 _ _
  replace XB : Hid (Var (U1.setCell ⟨nD, 4, none⟩ (.int .i64 a4)) (w.heap.size + 1) [.int .i64 b0, .int .i64 b1, .int .i64 b2, .int .i64 b3, .int .i64 b4, .int .i64 b5, .int .i64 b6]) := XB.out.other HX.out.2.1 _ _
  replace XD : Hid (Var (U1.setCell ⟨nD, 4, none⟩ (.int .i64 a4)) nD [.int .i64 a0, .int .i64 c1, .int .i64 c2, .int .i64 c3, .int .i64 a4, .int .i64 c5, .int .i64 c6]) := XD.out.set 4 _
  replace HB : Hid (Below w.heap.size w (U1.setCell ⟨nD, 4, none⟩ (.int .i64 a4))) := HB.out.setCell HX.out.2.2 _
  go_upto_region 4 with fail
  generalize (U1.setCell ⟨nD, 4, none⟩ (.int .i64 a4)) = U2 at *
  clear ca cd fz
  have ca := XA.out.cell 5 rfl
  have cd := XD.out.cell 5 rfl
  have fz := XD.out.frozen 5
  replace XA : Hid (Var (U2.setCell ⟨nD, 5, none⟩ (.int .i64 a5)) w.heap.size [.int .i64 a0, .int .i64 a1, .int .i64 a2, .int .i64 a3, .int .i64 a4, .int .i64 a5, .int .i64 a6]) := XA.out.other HX.out.1 _ _
  replace XB : Hid (Var (U2.setCell ⟨nD, 5, none⟩ (.int .i64 a5)) (w.heap.size + 1) [.int .i64 b0, .int .i64 b1, .int .i64 b2, .int .i64 b3, .int .i64 b4, .int .i64 b5, .int .i64 b6]) := XB.out.other HX.out.2.1 _ _
  replace XD : Hid (Var (U2.setCell ⟨nD, 5, none⟩ (.int .i64 a5)) nD [.int .i64 a0, .int .i64 c1, .int .i64 c2, .int .i64 c3, .int .i64 a4, .int .i64 a5, .int .i64 c6]) := XD.out.set 5 _
  replace HB : Hid (Below w.heap.size w (U2.setCell ⟨nD, 5, none⟩ (.int .i64 a5))) := HB.out.setCell HX.out.2.2 _
  go_upto_region 5 with fail
  generalize (U2.setCell ⟨nD, 5, none⟩ (.int .i64 a5)) = U3 at *
  clear ca cd fz
  obtain ⟨n, hn⟩ : ∃ n, newI a0 a4 a5 b0 b4 b5 = n := ⟨_, rfl⟩
  obtain ⟨m, hm⟩ : ∃ m, newI b0 b4 b5 a0 a4 a5 = m := ⟨_, rfl⟩
  have keepS : Hid (∀ X, Below U3.heap.size U3 X → X.cell? ⟨w.heap.size, 0, none⟩ = some (.int .i64 a0) ∧ X.cell? ⟨w.heap.size, 1, none⟩ = some (.int .i64 a1) ∧ X.cell? ⟨w.heap.size, 2, none⟩ = some (.int .i64 a2) ∧ X.cell? ⟨w.heap.size, 3, none⟩ = some (.int .i64 a3) ∧ X.cell? ⟨w.heap.size, 4, none⟩ = some (.int .i64 a4) ∧ X.cell? ⟨w.heap.size, 5, none⟩ = some (.int .i64 a5) ∧ X.cell? ⟨w.heap.size, 6, none⟩ = some (.int .i64 a6) ∧ X.cell? ⟨w.heap.size + 1, 0, none⟩ = some (.int .i64 b0) ∧ X.cell? ⟨w.heap.size + 1, 1, none⟩ = some (.int .i64 b1) ∧ X.cell? ⟨w.heap.size + 1, 2, none⟩ = some (.int .i64 b2) ∧ X.cell? ⟨w.heap.size + 1, 3, none⟩ = some (.int .i64 b3) ∧ X.cell? ⟨w.heap.size + 1, 4, none⟩ = some (.int .i64 b4) ∧ X.cell? ⟨w.heap.size + 1, 5, none⟩ = some (.int .i64 b5) ∧ X.cell? ⟨w.heap.size + 1, 6, none⟩ = some (.int .i64 b6) ∧ X.cell? ⟨nD, 0, none⟩ = some (.int .i64 a0) ∧ X.cell? ⟨nD, 1, none⟩ = some (.int .i64 c1) ∧ X.cell? ⟨nD, 2, none⟩ = some (.int .i64 c2) ∧ X.cell? ⟨nD, 3, none⟩ = some (.int .i64 c3) ∧ X.cell? ⟨nD, 4, none⟩ = some (.int .i64 a4) ∧ X.cell? ⟨nD, 5, none⟩ = some (.int .i64 a5) ∧ X.cell? ⟨nD, 6, none⟩ = some (.int .i64 c6) ∧ Hid (Below U3.heap.size U3 X)) := fun X hX => by
    have h1 := XA.out.below hX XA.out.lt
    have h2 := XB.out.below hX XB.out.lt
    have h3 := XD.out.below hX XD.out.lt
    exact ⟨h1.cell 0 rfl, h1.cell 1 rfl, h1.cell 2 rfl, h1.cell 3 rfl, h1.cell 4 rfl, h1.cell 5 rfl, h1.cell 6 rfl, h2.cell 0 rfl, h2.cell 1 rfl, h2.cell 2 rfl, h2.cell 3 rfl, h2.cell 4 rfl, h2.cell 5 rfl, h2.cell 6 rfl, h3.cell 0 rfl, h3.cell 1 rfl, h3.cell 2 rfl, h3.cell 3 rfl, h3.cell 4 rfl, h3.cell 5 rfl, h3.cell 6 rfl, hX⟩
  have HFC : Hid (∀ (X : World), Below U3.heap.size U3 X → ∀ (D E : Value) (r : Int), ((D = .agg #[.int .i64 a0, .int .i64 c1, .int .i64 c2, .int .i64 c3, .int .i64 a4, .int .i64 a5, .int .i64 c6] ∧ E = .agg #[.int .i64 b0, .int .i64 b1, .int .i64 b2, .int .i64 b3, .int .i64 b4, .int .i64 b5, .int .i64 b6] ∧ r = n) ∨ (D = .agg #[.int .i64 a0, .int .i64 a1, .int .i64 a2, .int .i64 a3, .int .i64 a4, .int .i64 a5, .int .i64 a6] ∧ E = .agg #[.int .i64 b0, .int .i64 b1, .int .i64 b2, .int .i64 b3, .int .i64 b4, .int .i64 b5, .int .i64 b6] ∧ r = n) ∨ (D = .agg #[.int .i64 b0, .int .i64 b1, .int .i64 b2, .int .i64 b3, .int .i64 b4, .int .i64 b5, .int .i64 b6] ∧ E = .agg #[.int .i64 a0, .int .i64 c1, .int .i64 c2, .int .i64 c3, .int .i64 a4, .int .i64 a5, .int .i64 c6] ∧ r = m) ∨ (D = .agg #[.int .i64 b0, .int .i64 b1, .int .i64 b2, .int .i64 b3, .int .i64 b4, .int .i64 b5, .int .i64 b6] ∧ E = .agg #[.int .i64 a0, .int .i64 a1, .int .i64 a2, .int .i64 a3, .int .i64 a4, .int .i64 a5, .int .i64 a6] ∧ r = m)) →
      Calls Try.prog 7 #[D, E] X fun e w' => e = .returned (.int .i64 r) ∧ Hid (Below U3.heap.size U3 w')) := by
    rintro X hX D E r (⟨rfl, rfl, rfl⟩ | ⟨rfl, rfl, rfl⟩ | ⟨rfl, rfl, rfl⟩ | ⟨rfl, rfl, rfl⟩)
    · refine (cmp_at _ _ _ _ _ _ _ _ _ _ _ _ _ _ _ hn Ia.out Ib.out X).mono ?_
      rintro e w' ⟨rfl, hb⟩
      exact ⟨rfl, hX.trans (hb.mono hX.size)⟩
    · refine (cmp_at _ _ _ _ _ _ _ _ _ _ _ _ _ _ _ hn Ia.out Ib.out X).mono ?_
      rintro e w' ⟨rfl, hb⟩
      exact ⟨rfl, hX.trans (hb.mono hX.size)⟩
    · refine (cmp_at _ _ _ _ _ _ _ _ _ _ _ _ _ _ _ hm Ib.out Ia.out X).mono ?_
      rintro e w' ⟨rfl, hb⟩
      exact ⟨rfl, hX.trans (hb.mono hX.size)⟩
    · refine (cmp_at _ _ _ _ _ _ _ _ _ _ _ _ _ _ _ hm Ib.out Ia.out X).mono ?_
      rintro e w' ⟨rfl, hb⟩
      exact ⟨rfl, hX.trans (hb.mono hX.size)⟩
  have FA : Hid (∀ (X : World), Below U3.heap.size U3 X → Calls Try.prog 9 #[] X fun e w' => e = .returned (.bool true) ∧ Hid (Below U3.heap.size U3 w')) := by
    intro X hX
    refine (awake_any X).mono ?_
    rintro e w' ⟨rfl, hb⟩
    exact ⟨rfl, hX.trans (hb.mono hX.size)⟩
  have hVd : Hid (Below U3.heap.size U3 U3.drew) := (Below.refl _ _).drew
  clear hn hm XA XB XD
  go_region_held3 (fun X => X.cell? ⟨w.heap.size, 0, none⟩ = some (.int .i64 a0) ∧ X.cell? ⟨w.heap.size, 1, none⟩ = some (.int .i64 a1) ∧ X.cell? ⟨w.heap.size, 2, none⟩ = some (.int .i64 a2) ∧ X.cell? ⟨w.heap.size, 3, none⟩ = some (.int .i64 a3) ∧ X.cell? ⟨w.heap.size, 4, none⟩ = some (.int .i64 a4) ∧ X.cell? ⟨w.heap.size, 5, none⟩ = some (.int .i64 a5) ∧ X.cell? ⟨w.heap.size, 6, none⟩ = some (.int .i64 a6) ∧ X.cell? ⟨w.heap.size + 1, 0, none⟩ = some (.int .i64 b0) ∧ X.cell? ⟨w.heap.size + 1, 1, none⟩ = some (.int .i64 b1) ∧ X.cell? ⟨w.heap.size + 1, 2, none⟩ = some (.int .i64 b2) ∧ X.cell? ⟨w.heap.size + 1, 3, none⟩ = some (.int .i64 b3) ∧ X.cell? ⟨w.heap.size + 1, 4, none⟩ = some (.int .i64 b4) ∧ X.cell? ⟨w.heap.size + 1, 5, none⟩ = some (.int .i64 b5) ∧ X.cell? ⟨w.heap.size + 1, 6, none⟩ = some (.int .i64 b6) ∧ X.cell? ⟨nD, 0, none⟩ = some (.int .i64 a0) ∧ X.cell? ⟨nD, 1, none⟩ = some (.int .i64 c1) ∧ X.cell? ⟨nD, 2, none⟩ = some (.int .i64 c2) ∧ X.cell? ⟨nD, 3, none⟩ = some (.int .i64 c3) ∧ X.cell? ⟨nD, 4, none⟩ = some (.int .i64 a4) ∧ X.cell? ⟨nD, 5, none⟩ = some (.int .i64 a5) ∧ X.cell? ⟨nD, 6, none⟩ = some (.int .i64 c6) ∧ Hid (Below U3.heap.size U3 X)) ((refine keepS.out _ ?_; exact Hid.out (by assumption)))
    (first | (go_at_call 9; refine (FA.out _ (by go_split_ands; exact Hid.out (by assumption))).mono ?_; rintro e w' ⟨rfl, hk⟩) | (go_at_call 7; refine (HFC.out _ (by go_split_ands; exact Hid.out (by assumption)) _ _ n ?hp).mono ?_; (case hp => (with_reducible exact .inl ⟨rfl, rfl, rfl⟩)); rintro e w' ⟨rfl, hk⟩) | (go_at_call 7; refine (HFC.out _ (by go_split_ands; exact Hid.out (by assumption)) _ _ n ?hp).mono ?_; (case hp => (with_reducible exact .inr (.inl ⟨rfl, rfl, rfl⟩))); rintro e w' ⟨rfl, hk⟩) | (go_at_call 7; refine (HFC.out _ (by go_split_ands; exact Hid.out (by assumption)) _ _ m ?hp).mono ?_; (case hp => (with_reducible exact .inr (.inr (.inl ⟨rfl, rfl, rfl⟩)))); rintro e w' ⟨rfl, hk⟩) | (go_at_call 7; refine (HFC.out _ (by go_split_ands; exact Hid.out (by assumption)) _ _ m ?hp).mono ?_; (case hp => (with_reducible exact .inr (.inr (.inr ⟨rfl, rfl, rfl⟩)))); rintro e w' ⟨rfl, hk⟩) | fail)
  rename_i hH
  have HR : Hid (Below w.heap.size w w') := below_more HB.out hk.out HB.out.size
  clear hH hk keepS HFC FA
  go_wp2
  go_ret
  exact ⟨rfl, HR.out⟩
end Go.Proofs.Ytphjffagjjkeeaa
