/- Package elect: contracts of its calls. -/
import Derived.Test.YtioimebfenklkaaE10P
import Derived.Deep.RegionWith
import Derived.Deep.Cut
import Derived.Deep.CutRange
namespace Go.Proofs.Ytioimebfenklkaa
open Go.RowKit
set_option linter.unusedVariables false

theorem two_vars (w : World) (A B : List Value) (t u : TypeId) : Var ((w.alloc (.cells A.toArray t)).alloc (.cells B.toArray u)) w.heap.size A ∧ Var ((w.alloc (.cells A.toArray t)).alloc (.cells B.toArray u)) (w.heap.size + 1) B := by
  refine ⟨(var_new w A t).alloc _, ?_⟩
  have := var_new (w.alloc (.cells A.toArray t)) B u
  rw [size_new] at this; exact this
theorem three_vars (w : World) (A B C : List Value) (t u v : TypeId) : Var (((w.alloc (.cells A.toArray t)).alloc (.cells B.toArray u)).alloc (.cells C.toArray v)) w.heap.size A ∧ Var (((w.alloc (.cells A.toArray t)).alloc (.cells B.toArray u)).alloc (.cells C.toArray v)) (w.heap.size + 1) B ∧ Var (((w.alloc (.cells A.toArray t)).alloc (.cells B.toArray u)).alloc (.cells C.toArray v)) (w.heap.size + 1 + 1) C := by
  obtain ⟨h1, h2⟩ := two_vars w A B t u
  refine ⟨h1.alloc _, h2.alloc _, ?_⟩
  have := var_new ((w.alloc (.cells A.toArray t)).alloc (.cells B.toArray u)) C v
  rw [size_new, size_new] at this; exact this
theorem Var.put5 {w : World} {b : Nat} {a0 a1 a2 a3 a4 : Value} (h : Var w b [a0, a1, a2, a3, a4]) (v0 v1 v2 v3 v4 : Value) : Var (((((w.setCell ⟨b, 0, none⟩ v0).setCell ⟨b, 1, none⟩ v1).setCell ⟨b, 2, none⟩ v2).setCell ⟨b, 3, none⟩ v3).setCell ⟨b, 4, none⟩ v4) b [v0, v1, v2, v3, v4] :=
  h |>.set 0 v0 |>.set 1 v1 |>.set 2 v2 |>.set 3 v3 |>.set 4 v4
theorem below_put5 {w0 w : World} {N b o : Nat} (h : Below N w0 w) (hb : N ≤ b) (v0 v1 v2 v3 v4 : Value) : Below N w0 (((((w.setCell ⟨b, o, none⟩ v0).setCell ⟨b, o + 1, none⟩ v1).setCell ⟨b, o + 2, none⟩ v2).setCell ⟨b, o + 3, none⟩ v3).setCell ⟨b, o + 4, none⟩ v4) := by
  have hx : ∀ i, N ≤ (⟨b, i, none⟩ : Addr).block := fun _ => hb
  exact h |>.setCell (hx o) v0 |>.setCell (hx (o + 1)) v1 |>.setCell (hx (o + 2)) v2 |>.setCell (hx (o + 3)) v3 |>.setCell (hx (o + 4)) v4
theorem below_dw {N : Nat} {w w' : World} (h : Below N w w') : Below N w w'.drew := h.drew
set_option maxHeartbeats 1600000 in
theorem better_any (a b : CandZ) (w : World) :
    Calls Try.prog 22 #[.agg (candA a), .agg (candA b)] w fun e w' => e = .returned (.agg (candA (betZ a b))) ∧ Below w.heap.size w w' := by
  have HV := three_vars w (candC a) (candC b) (candC zeroK) 23 23 23
  obtain ⟨hX, hY, hZ⟩ := HV
  have HX : Hid (Var (((w.alloc (.cells (candA a) 23)).alloc (.cells (candA b) 23)).alloc (.cells (candA zeroK) 23)) w.heap.size (candC a)) := hX
  have HY : Hid (Var (((w.alloc (.cells (candA a) 23)).alloc (.cells (candA b) 23)).alloc (.cells (candA zeroK) 23)) (w.heap.size + 1) (candC b)) := hY
  have HZ : Hid (Var (((w.alloc (.cells (candA a) 23)).alloc (.cells (candA b) 23)).alloc (.cells (candA zeroK) 23)) (w.heap.size + 1 + 1) (candC zeroK)) := hZ
  have HB : Hid (Below w.heap.size w (((w.alloc (.cells (candA a) 23)).alloc (.cells (candA b) 23)).alloc (.cells (candA zeroK) 23))) := ((below_new' _ _).alloc (by simp) _).alloc (by simp; omega) _
  have HE : Hid (betZ a b = if orZ [cmpZ a.prio b.prio, cmpZ a.id b.id, cmpZ a.addr b.addr] < 0 then b else a) := rfl
  generalize betZ a b = R at *
  have CA := compare_at a.prio b.prio _ rfl
  have CB := compare_at a.id b.id _ rfl
  have CC := compare_at a.addr b.addr _ rfl
  generalize cmpZ a.prio b.prio = A at *
  generalize cmpZ a.id b.id = B at *
  generalize cmpZ a.addr b.addr = C at *
  clear hX hY hZ
  unfold zeroK at *
  go_enter Try.func22, Try.ntmps22
  go_upto_region 1 with fail
  generalize ((w.alloc (.cells (candA a) 23)).alloc (.cells (candA b) 23)).alloc (.cells #[.int .i64 0, .int .i64 0, .int .i64 0, .int .i64 0, .int .i64 0] 23) = W at *
  have keepS : Hid (∀ X, Below W.heap.size W X → X.cell? ⟨w.heap.size, 2, none⟩ = some (.int .i64 a.prio) ∧ X.cell? ⟨w.heap.size + 1, 2, none⟩ = some (.int .i64 b.prio) ∧ X.cell? ⟨w.heap.size, 0, none⟩ = some (.int .i64 a.id) ∧ X.cell? ⟨w.heap.size + 1, 0, none⟩ = some (.int .i64 b.id) ∧ X.cell? ⟨w.heap.size, 1, none⟩ = some (.int .i64 a.addr) ∧ X.cell? ⟨w.heap.size + 1, 1, none⟩ = some (.int .i64 b.addr) ∧ Hid (Below W.heap.size W X)) := by
    intro X hX
    have h1 := HX.out.below hX HX.out.lt
    have h2 := HY.out.below hX HY.out.lt
    exact ⟨h1.cell 2 rfl, h2.cell 2 rfl, h1.cell 0 rfl, h2.cell 0 rfl, h1.cell 1 rfl, h2.cell 1 rfl, hX⟩
  have hVd : Hid (Below W.heap.size W W.drew) := (Below.refl _ _).drew
  have hNd : Hid (Below W.heap.size W (W.alloc (.cells #[.int .i64 A, .int .i64 B, .int .i64 C] 3)).drew) := ((Below.refl _ _).alloc (Nat.le_refl _) _).drew
  have CO := or_any _ 3 3 [A, B, C] (W.alloc (.cells #[.int .i64 A, .int .i64 B, .int .i64 C] 3)).drew rfl ((lies_three W A B C).below (Below.refl _ _).drew) (by simp)
  obtain ⟨r, hr⟩ : ∃ r, orZ [A, B, C] = r := ⟨_, rfl⟩
  have HR : Hid (orZ [A, B, C] = r) := hr
  rw [hr] at CO
  clear hr
  go_region_held3 (fun X => X.cell? ⟨w.heap.size, 2, none⟩ = some (.int .i64 a.prio) ∧ X.cell? ⟨w.heap.size + 1, 2, none⟩ = some (.int .i64 b.prio) ∧ X.cell? ⟨w.heap.size, 0, none⟩ = some (.int .i64 a.id) ∧ X.cell? ⟨w.heap.size + 1, 0, none⟩ = some (.int .i64 b.id) ∧ X.cell? ⟨w.heap.size, 1, none⟩ = some (.int .i64 a.addr) ∧ X.cell? ⟨w.heap.size + 1, 1, none⟩ = some (.int .i64 b.addr) ∧ Hid (Below W.heap.size W X)) (with_reducible first | exact keepS.out _ hVd.out | assumption | exact keepS.out _ hNd.out) (first
    | (go_at_call_of 26 (Value.int .i64 a.prio); refine (CA _).mono ?_; rintro e w' ⟨rfl, rfl⟩)
    | (go_at_call_of 26 (Value.int .i64 a.id); refine (CB _).mono ?_; rintro e w' ⟨rfl, rfl⟩)
    | (go_at_call_of 26 (Value.int .i64 a.addr); refine (CC _).mono ?_; rintro e w' ⟨rfl, rfl⟩)
    | (go_at_call 25; refine CO.mono ?_; rintro e w' ⟨rfl, rfl⟩))
  have HB2 : Hid (Below w.heap.size w (W.alloc (.cells #[.int .i64 A, .int .i64 B, .int .i64 C] 3)).drew) := below_more HB.out hNd.out HB.out.size
  have HX2 := HX.out.below hNd.out HX.out.lt
  have HY2 := HY.out.below hNd.out HY.out.lt
  have HZ2 := HZ.out.below hNd.out HZ.out.lt
  clear CO hVd hNd keepS HX HY HZ HB
  generalize (W.alloc (.cells #[.int .i64 A, .int .i64 B, .int .i64 C] 3)).drew = V at *
  have hV := fun (v0 v1 v2 v3 v4 : Value) => HZ2.put5 v0 v1 v2 v3 v4
  by_cases hr : r < 0
  · have d0 := HY2.cell 0 rfl
    have d1 := HY2.cell 1 rfl
    have d2 := HY2.cell 2 rfl
    have d3 := HY2.cell 3 rfl
    have d4 := HY2.cell 4 rfl
    have f0 := HZ2.cell 0 rfl
    have f1 := HZ2.cell 1 rfl
    have f2 := HZ2.cell 2 rfl
    have f3 := HZ2.cell 3 rfl
    have f4 := HZ2.cell 4 rfl
    have e0 := HZ2.frozen 0
    have e1 := HZ2.frozen 1
    have e2 := HZ2.frozen 2
    have e3 := HZ2.frozen 3
    have e4 := HZ2.frozen 4
    have hRb : R = b := by rw [HE.out, HR.out, if_pos hr]
    subst hRb
    have hVV := hV (.int .i64 R.id) (.int .i64 R.addr) (.int .i64 R.prio) (.int .i64 R.dr) (.int .i64 R.bdr)
    have hK := below_put5 (b := w.heap.size + 1 + 1) (o := 0) HB2.out (by omega) (.int .i64 R.id) (.int .i64 R.addr) (.int .i64 R.prio) (.int .i64 R.dr) (.int .i64 R.bdr)
    simp only [Nat.zero_add] at hK
    go_wp2
    generalize (((((V.setCell ⟨w.heap.size + 1 + 1, 0, none⟩ (.int .i64 R.id)).setCell ⟨w.heap.size + 1 + 1, 1, none⟩ (.int .i64 R.addr)).setCell ⟨w.heap.size + 1 + 1, 2, none⟩ (.int .i64 R.prio)).setCell ⟨w.heap.size + 1 + 1, 3, none⟩ (.int .i64 R.dr)).setCell ⟨w.heap.size + 1 + 1, 4, none⟩ (.int .i64 R.bdr)) = U at *
    have u0 := hVV.cell 0 rfl
    have u1 := hVV.cell 1 rfl
    have u2 := hVV.cell 2 rfl
    have u3 := hVV.cell 3 rfl
    have u4 := hVV.cell 4 rfl
    (try simp only [Exit.inBlock, Exit.then])
    refine bodyPost_ret (by simp [results, Try.results22, go_sem, u0, u1, u2, u3, u4]; try rfl) rfl ?_
    exact ⟨rfl, hK⟩
  · have d0 := HX2.cell 0 rfl
    have d1 := HX2.cell 1 rfl
    have d2 := HX2.cell 2 rfl
    have d3 := HX2.cell 3 rfl
    have d4 := HX2.cell 4 rfl
    have f0 := HZ2.cell 0 rfl
    have f1 := HZ2.cell 1 rfl
    have f2 := HZ2.cell 2 rfl
    have f3 := HZ2.cell 3 rfl
    have f4 := HZ2.cell 4 rfl
    have e0 := HZ2.frozen 0
    have e1 := HZ2.frozen 1
    have e2 := HZ2.frozen 2
    have e3 := HZ2.frozen 3
    have e4 := HZ2.frozen 4
    have hRb : R = a := by rw [HE.out, HR.out, if_neg hr]
    subst hRb
    have hVV := hV (.int .i64 R.id) (.int .i64 R.addr) (.int .i64 R.prio) (.int .i64 R.dr) (.int .i64 R.bdr)
    have hK := below_put5 (b := w.heap.size + 1 + 1) (o := 0) HB2.out (by omega) (.int .i64 R.id) (.int .i64 R.addr) (.int .i64 R.prio) (.int .i64 R.dr) (.int .i64 R.bdr)
    simp only [Nat.zero_add] at hK
    go_wp2
    generalize (((((V.setCell ⟨w.heap.size + 1 + 1, 0, none⟩ (.int .i64 R.id)).setCell ⟨w.heap.size + 1 + 1, 1, none⟩ (.int .i64 R.addr)).setCell ⟨w.heap.size + 1 + 1, 2, none⟩ (.int .i64 R.prio)).setCell ⟨w.heap.size + 1 + 1, 3, none⟩ (.int .i64 R.dr)).setCell ⟨w.heap.size + 1 + 1, 4, none⟩ (.int .i64 R.bdr)) = U at *
    have u0 := hVV.cell 0 rfl
    have u1 := hVV.cell 1 rfl
    have u2 := hVV.cell 2 rfl
    have u3 := hVV.cell 3 rfl
    have u4 := hVV.cell 4 rfl
    (try simp only [Exit.inBlock, Exit.then])
    refine bodyPost_ret (by simp [results, Try.results22, go_sem, u0, u1, u2, u3, u4]; try rfl) rfl ?_
    exact ⟨rfl, hK⟩
theorem addrOr_any (c : CandZ) (o : Int) (w : World) :
    Calls Try.prog 19 #[.agg (candA c), .int .i64 o] w fun e w' => e = .returned (.int .i64 (addrOrZ c o)) ∧ Below w.heap.size w w' := by
  have HB : Hid (Below w.heap.size w (w.alloc (.cells (candA c) 23))) := below_new' _ _
  go_enter Try.func19, Try.ntmps19
  unfold addrOrZ
  by_cases h : c.prio = 0
  · rw [if_pos h]
    go_wp2
    go_ret
    exact ⟨rfl, HB.out⟩
  · rw [if_neg h]
    go_wp2
    go_ret
    exact ⟨rfl, HB.out⟩
set_option maxHeartbeats 800000 in
theorem turned_any (c : CandZ) (dr bdr : Int) (w : World) :
    Calls Try.prog 16 #[.agg (candA c), .int .i64 dr, .int .i64 bdr] w fun e w' => e = .returned (.bool (turnedZ c dr bdr)) ∧ Below w.heap.size w w' := by
  have HB : Hid (Below w.heap.size w (w.alloc (.cells (candA c) 23))) := below_new' _ _
  have HE : Hid (turnedZ c dr bdr = (((dr == c.addr) != (c.dr == c.addr)) || ((bdr == c.addr) != (c.bdr == c.addr)))) := rfl
  generalize turnedZ c dr bdr = R at *
  go_enter Try.func16, Try.ntmps16
  go_wp2
  all_goals go_ret
  all_goals (refine ⟨ret_bool ?_, HB.out⟩; rw [HE.out]; clear HE; generalize (dr == c.addr) = p at *; generalize (c.dr == c.addr) = q at *; generalize (bdr == c.addr) = r at *; generalize (c.bdr == c.addr) = s at *; cases p <;> cases q <;> cases r <;> cases s <;> simp_all)
end Go.Proofs.Ytioimebfenklkaa
