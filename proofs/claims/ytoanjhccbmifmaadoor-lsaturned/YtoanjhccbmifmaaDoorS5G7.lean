/- The advertisement that bytes begin with. -/
import Derived.Test.YtoanjhccbmifmaaDoorS5G6
namespace Go.Proofs.YtoanjhccbmifmaaDoor
open Go.RowKit
set_option linter.unusedVariables false

/-- As many of the bytes as the head says. -/
def getB (zs : List Int) : List Int := zs.take (lenAt zs).toNat
def ReadBad (w : World) (p : Nat → Addr) (k : Nat) (e : Ending) (w' : World) : Prop := ∃ str, e = .returned (.tuple #[.agg #[.int .i64 0, .int .i64 0, .int .i64 0, .int .i64 0, .int .i64 0, .int .i64 0, .int .i64 0, .int .i64 0, .slice none 0 0, .int .i64 0, .slice none 0 0, .slice none 0 0], faultV str (p k)]) ∧ Below w.heap.size w w'
theorem firstK_zero {zs : List Int} (h : firstK zs = 0) : 20 ≤ lenAt zs ∧ lenAt zs ≤ zs.length := by
  unfold firstK at h
  split at h
  · cases h
  · split at h
    · cases h
    · split at h
      · cases h
      · omega
theorem getB_length {zs : List Int} (h : firstK zs = 0) : (getB zs).length = (lenAt zs).toNat := by
  have := firstK_zero h
  unfold getB; rw [List.length_take]; omega
theorem slice_take {w : World} {a : Option Addr} {c : Nat} {zs : List Int} (h : Slice w a c zs) (m : Nat) : Slice w a c (zs.take m) := by
  refine ⟨?_, areBytes_take h.bd m, by have := h.room; rw [List.length_take]; omega, h.nil, by have := h.len; rw [List.length_take]; omega⟩
  rcases h.bts with e | ⟨b, off, e, hc⟩
  · exact .inl (by rw [e]; simp)
  · refine .inr ⟨b, off, e, fun i hi => ?_⟩
    rw [List.length_take] at hi
    rw [hc i (by omega)]
    simp [List.getD_eq_getElem?_getD, show i < m by omega]
/-- Two variables, still as they began; all else as it was. -/
def Two0 (w X : World) : Prop := Var X w.heap.size [.int .i64 0, .int .i64 0, .int .i64 0, .int .i64 0, .int .i64 0, .int .i64 0, .int .i64 0, .int .i64 0, .slice none 0 0, .int .i64 0, .slice none 0 0, .slice none 0 0] ∧ Var X (w.heap.size + 1) [.int .i64 0, .int .i64 0, .int .i64 0, .int .i64 0, .int .i64 0, .int .i64 0, .int .i64 0, .int .i64 0, .slice none 0 0, .int .i64 0, .slice none 0 0, .slice none 0 0] ∧ Below w.heap.size w X
theorem Two0.alloc {w X : World} (h : Two0 w X) (o : Obj) : Two0 w (X.alloc o) := ⟨h.1.alloc _, h.2.1.alloc _, h.2.2.alloc h.2.2.size _⟩
theorem Two0.drew {w X : World} (h : Two0 w X) : Two0 w X.drew := ⟨h.1.drew, h.2.1.drew, h.2.2.drew⟩
theorem Two0.put {w X : World} {b : Nat} (h : Two0 w X) (hb : w.heap.size + 1 < b) (v0 v1 v2 v3 v4 v5 v6 v7 v8 v9 v10 v11 : Value) : Two0 w ((((((((((((X.setCell ⟨b, 0, none⟩ (v0)).setCell ⟨b, 1, none⟩ (v1)).setCell ⟨b, 2, none⟩ (v2)).setCell ⟨b, 3, none⟩ (v3)).setCell ⟨b, 4, none⟩ (v4)).setCell ⟨b, 5, none⟩ (v5)).setCell ⟨b, 6, none⟩ (v6)).setCell ⟨b, 7, none⟩ (v7)).setCell ⟨b, 8, none⟩ (v8)).setCell ⟨b, 9, none⟩ (v9)).setCell ⟨b, 10, none⟩ (v10)).setCell ⟨b, 11, none⟩ (v11)) := ⟨h.1.put12' (by omega) v0 v1 v2 v3 v4 v5 v6 v7 v8 v9 v10 v11, h.2.1.put12' (by omega) v0 v1 v2 v3 v4 v5 v6 v7 v8 v9 v10 v11, below_put12 h.2.2 (by omega) v0 v1 v2 v3 v4 v5 v6 v7 v8 v9 v10 v11⟩
theorem Two0.below {w X Y : World} (h : Two0 w X) (hb : Below X.heap.size X Y) : Two0 w Y := ⟨h.1.below hb h.1.lt, h.2.1.below hb h.2.1.lt, below_more h.2.2 hb h.2.2.size⟩
theorem Two0.self {w X : World} (h : Two0 w X) : Two0 w ((((((((((((X.setCell ⟨w.heap.size, 0, none⟩ (.int .i64 0)).setCell ⟨w.heap.size, 1, none⟩ (.int .i64 0)).setCell ⟨w.heap.size, 2, none⟩ (.int .i64 0)).setCell ⟨w.heap.size, 3, none⟩ (.int .i64 0)).setCell ⟨w.heap.size, 4, none⟩ (.int .i64 0)).setCell ⟨w.heap.size, 5, none⟩ (.int .i64 0)).setCell ⟨w.heap.size, 6, none⟩ (.int .i64 0)).setCell ⟨w.heap.size, 7, none⟩ (.int .i64 0)).setCell ⟨w.heap.size, 8, none⟩ (.slice none 0 0)).setCell ⟨w.heap.size, 9, none⟩ (.int .i64 0)).setCell ⟨w.heap.size, 10, none⟩ (.slice none 0 0)).setCell ⟨w.heap.size, 11, none⟩ (.slice none 0 0)) := ⟨h.1.put12 (.int .i64 0) (.int .i64 0) (.int .i64 0) (.int .i64 0) (.int .i64 0) (.int .i64 0) (.int .i64 0) (.int .i64 0) (.slice none 0 0) (.int .i64 0) (.slice none 0 0) (.slice none 0 0), h.2.1.put12' (by omega) (.int .i64 0) (.int .i64 0) (.int .i64 0) (.int .i64 0) (.int .i64 0) (.int .i64 0) (.int .i64 0) (.int .i64 0) (.slice none 0 0) (.int .i64 0) (.slice none 0 0) (.slice none 0 0), below_put12 h.2.2 (Nat.le_refl _) (.int .i64 0) (.int .i64 0) (.int .i64 0) (.int .i64 0) (.int .i64 0) (.int .i64 0) (.int .i64 0) (.int .i64 0) (.slice none 0 0) (.int .i64 0) (.slice none 0 0) (.slice none 0 0)⟩
theorem Two0.room {w X : World} (h : Two0 w X) : w.heap.size + 1 < X.heap.size := h.2.1.lt
set_option maxHeartbeats 3200000 in
set_option maxRecDepth 20000 in
theorem read_first (a : Option Addr) (n cap : Nat) (zs : List Int) (p : Nat → Addr) (w : World) (hn : n = zs.length) (hE : EnvAt w p) (hS : Slice w a cap zs) (k : Nat) (hk : firstK zs = k + 1) :
    Calls Tryd.prog 46 #[.slice a n cap] w (ReadBad w p (k + 1)) := by
  have HV : Hid (Var ((w.alloc (.cells #[.int .i64 0, .int .i64 0, .int .i64 0, .int .i64 0, .int .i64 0, .int .i64 0, .int .i64 0, .int .i64 0, .slice none 0 0, .int .i64 0, .slice none 0 0, .slice none 0 0] 28)).alloc (.cells #[.int .i64 0, .int .i64 0, .int .i64 0, .int .i64 0, .int .i64 0, .int .i64 0, .int .i64 0, .int .i64 0, .slice none 0 0, .int .i64 0, .slice none 0 0, .slice none 0 0] 28)) w.heap.size [.int .i64 0, .int .i64 0, .int .i64 0, .int .i64 0, .int .i64 0, .int .i64 0, .int .i64 0, .int .i64 0, .slice none 0 0, .int .i64 0, .slice none 0 0, .slice none 0 0]) := (var_new w [.int .i64 0, .int .i64 0, .int .i64 0, .int .i64 0, .int .i64 0, .int .i64 0, .int .i64 0, .int .i64 0, .slice none 0 0, .int .i64 0, .slice none 0 0, .slice none 0 0] _).alloc _
  have HO : Hid (Var ((w.alloc (.cells #[.int .i64 0, .int .i64 0, .int .i64 0, .int .i64 0, .int .i64 0, .int .i64 0, .int .i64 0, .int .i64 0, .slice none 0 0, .int .i64 0, .slice none 0 0, .slice none 0 0] 28)).alloc (.cells #[.int .i64 0, .int .i64 0, .int .i64 0, .int .i64 0, .int .i64 0, .int .i64 0, .int .i64 0, .int .i64 0, .slice none 0 0, .int .i64 0, .slice none 0 0, .slice none 0 0] 28)) (w.heap.size + 1) [.int .i64 0, .int .i64 0, .int .i64 0, .int .i64 0, .int .i64 0, .int .i64 0, .int .i64 0, .int .i64 0, .slice none 0 0, .int .i64 0, .slice none 0 0, .slice none 0 0]) := by
    have h1 := var_new (w.alloc (.cells #[.int .i64 0, .int .i64 0, .int .i64 0, .int .i64 0, .int .i64 0, .int .i64 0, .int .i64 0, .int .i64 0, .slice none 0 0, .int .i64 0, .slice none 0 0, .slice none 0 0] 28)) [.int .i64 0, .int .i64 0, .int .i64 0, .int .i64 0, .int .i64 0, .int .i64 0, .int .i64 0, .int .i64 0, .slice none 0 0, .int .i64 0, .slice none 0 0, .slice none 0 0] 28
    rw [size_new] at h1; exact h1
  have HB : Hid (Below w.heap.size w ((w.alloc (.cells #[.int .i64 0, .int .i64 0, .int .i64 0, .int .i64 0, .int .i64 0, .int .i64 0, .int .i64 0, .int .i64 0, .slice none 0 0, .int .i64 0, .slice none 0 0, .slice none 0 0] 28)).alloc (.cells #[.int .i64 0, .int .i64 0, .int .i64 0, .int .i64 0, .int .i64 0, .int .i64 0, .int .i64 0, .int .i64 0, .slice none 0 0, .int .i64 0, .slice none 0 0, .slice none 0 0] 28))) := (below_new' _ _).alloc (by simp) _
  have HE : Hid (EnvAt w p) := hE
  have HS : Hid (Slice w a cap zs) := hS
  have hfirst := fun W (hb : Below w.heap.size w W) => first_any a n cap zs p W hn (hE.below hb (Nat.le_refl _)) (hS.below hb)
  unfold FirstEnd at hfirst
  rw [hk] at hfirst
  clear hE hS hn
  go_enter Tryd.func46, Tryd.ntmps46
  go_upto_region 2 with fail
  generalize ((w.alloc (.cells #[.int .i64 0, .int .i64 0, .int .i64 0, .int .i64 0, .int .i64 0, .int .i64 0, .int .i64 0, .int .i64 0, .slice none 0 0, .int .i64 0, .slice none 0 0, .slice none 0 0] 28)).alloc (.cells #[.int .i64 0, .int .i64 0, .int .i64 0, .int .i64 0, .int .i64 0, .int .i64 0, .int .i64 0, .int .i64 0, .slice none 0 0, .int .i64 0, .slice none 0 0, .slice none 0 0] 28)) = W at *
  go_wp2_with fail
  refine (hfirst _ HB.out).mono ?_
  rintro e w3 ⟨hb, str, rfl⟩
  replace HV : Hid (Var w3 w.heap.size [.int .i64 0, .int .i64 0, .int .i64 0, .int .i64 0, .int .i64 0, .int .i64 0, .int .i64 0, .int .i64 0, .slice none 0 0, .int .i64 0, .slice none 0 0, .slice none 0 0]) := HV.out.below hb HV.out.lt
  replace HO : Hid (Var w3 (w.heap.size + 1) [.int .i64 0, .int .i64 0, .int .i64 0, .int .i64 0, .int .i64 0, .int .i64 0, .int .i64 0, .int .i64 0, .slice none 0 0, .int .i64 0, .slice none 0 0, .slice none 0 0]) := HO.out.below hb HO.out.lt
  replace HB : Hid (Below w.heap.size w w3) := below_more HB.out hb HB.out.size
  clear hb hfirst
  have K3 : Hid (Var ((((((((((((w3.setCell ⟨w.heap.size, 0, none⟩ (.int .i64 0)).setCell ⟨w.heap.size, 1, none⟩ (.int .i64 0)).setCell ⟨w.heap.size, 2, none⟩ (.int .i64 0)).setCell ⟨w.heap.size, 3, none⟩ (.int .i64 0)).setCell ⟨w.heap.size, 4, none⟩ (.int .i64 0)).setCell ⟨w.heap.size, 5, none⟩ (.int .i64 0)).setCell ⟨w.heap.size, 6, none⟩ (.int .i64 0)).setCell ⟨w.heap.size, 7, none⟩ (.int .i64 0)).setCell ⟨w.heap.size, 8, none⟩ (.slice none 0 0)).setCell ⟨w.heap.size, 9, none⟩ (.int .i64 0)).setCell ⟨w.heap.size, 10, none⟩ (.slice none 0 0)).setCell ⟨w.heap.size, 11, none⟩ (.slice none 0 0)) w.heap.size [.int .i64 0, .int .i64 0, .int .i64 0, .int .i64 0, .int .i64 0, .int .i64 0, .int .i64 0, .int .i64 0, .slice none 0 0, .int .i64 0, .slice none 0 0, .slice none 0 0]) := HV.out.put12 (.int .i64 0) (.int .i64 0) (.int .i64 0) (.int .i64 0) (.int .i64 0) (.int .i64 0) (.int .i64 0) (.int .i64 0) (.slice none 0 0) (.int .i64 0) (.slice none 0 0) (.slice none 0 0)
  have K2 : Hid (Below w.heap.size w ((((((((((((w3.setCell ⟨w.heap.size, 0, none⟩ (.int .i64 0)).setCell ⟨w.heap.size, 1, none⟩ (.int .i64 0)).setCell ⟨w.heap.size, 2, none⟩ (.int .i64 0)).setCell ⟨w.heap.size, 3, none⟩ (.int .i64 0)).setCell ⟨w.heap.size, 4, none⟩ (.int .i64 0)).setCell ⟨w.heap.size, 5, none⟩ (.int .i64 0)).setCell ⟨w.heap.size, 6, none⟩ (.int .i64 0)).setCell ⟨w.heap.size, 7, none⟩ (.int .i64 0)).setCell ⟨w.heap.size, 8, none⟩ (.slice none 0 0)).setCell ⟨w.heap.size, 9, none⟩ (.int .i64 0)).setCell ⟨w.heap.size, 10, none⟩ (.slice none 0 0)).setCell ⟨w.heap.size, 11, none⟩ (.slice none 0 0))) := below_put12 HB.out (Nat.le_refl _) (.int .i64 0) (.int .i64 0) (.int .i64 0) (.int .i64 0) (.int .i64 0) (.int .i64 0) (.int .i64 0) (.int .i64 0) (.slice none 0 0) (.int .i64 0) (.slice none 0 0) (.slice none 0 0)
  have a0 := HO.out.cell 0 rfl
  have a1 := HO.out.cell 1 rfl
  have a2 := HO.out.cell 2 rfl
  have a3 := HO.out.cell 3 rfl
  have a4 := HO.out.cell 4 rfl
  have a5 := HO.out.cell 5 rfl
  have a6 := HO.out.cell 6 rfl
  have a7 := HO.out.cell 7 rfl
  have a8 := HO.out.cell 8 rfl
  have a9 := HO.out.cell 9 rfl
  have a10 := HO.out.cell 10 rfl
  have a11 := HO.out.cell 11 rfl
  have r0 := HV.out.cell 0 rfl
  have r1 := HV.out.cell 1 rfl
  have r2 := HV.out.cell 2 rfl
  have r3 := HV.out.cell 3 rfl
  have r4 := HV.out.cell 4 rfl
  have r5 := HV.out.cell 5 rfl
  have r6 := HV.out.cell 6 rfl
  have r7 := HV.out.cell 7 rfl
  have r8 := HV.out.cell 8 rfl
  have r9 := HV.out.cell 9 rfl
  have r10 := HV.out.cell 10 rfl
  have r11 := HV.out.cell 11 rfl
  have q0 := HV.out.frozen 0
  have q1 := HV.out.frozen 1
  have q2 := HV.out.frozen 2
  have q3 := HV.out.frozen 3
  have q4 := HV.out.frozen 4
  have q5 := HV.out.frozen 5
  have q6 := HV.out.frozen 6
  have q7 := HV.out.frozen 7
  have q8 := HV.out.frozen 8
  have q9 := HV.out.frozen 9
  have q10 := HV.out.frozen 10
  have q11 := HV.out.frozen 11
  go_wp2
  clear a0 a1 a2 a3 a4 a5 a6 a7 a8 a9 a10 a11 r0 r1 r2 r3 r4 r5 r6 r7 r8 r9 r10 r11 q0 q1 q2 q3 q4 q5 q6 q7 q8 q9 q10 q11
  generalize ((((((((((((w3.setCell ⟨w.heap.size, 0, none⟩ (.int .i64 0)).setCell ⟨w.heap.size, 1, none⟩ (.int .i64 0)).setCell ⟨w.heap.size, 2, none⟩ (.int .i64 0)).setCell ⟨w.heap.size, 3, none⟩ (.int .i64 0)).setCell ⟨w.heap.size, 4, none⟩ (.int .i64 0)).setCell ⟨w.heap.size, 5, none⟩ (.int .i64 0)).setCell ⟨w.heap.size, 6, none⟩ (.int .i64 0)).setCell ⟨w.heap.size, 7, none⟩ (.int .i64 0)).setCell ⟨w.heap.size, 8, none⟩ (.slice none 0 0)).setCell ⟨w.heap.size, 9, none⟩ (.int .i64 0)).setCell ⟨w.heap.size, 10, none⟩ (.slice none 0 0)).setCell ⟨w.heap.size, 11, none⟩ (.slice none 0 0)) = Z at *
  have c0 := K3.out.cell 0 rfl
  have c1 := K3.out.cell 1 rfl
  have c2 := K3.out.cell 2 rfl
  have c3 := K3.out.cell 3 rfl
  have c4 := K3.out.cell 4 rfl
  have c5 := K3.out.cell 5 rfl
  have c6 := K3.out.cell 6 rfl
  have c7 := K3.out.cell 7 rfl
  have c8 := K3.out.cell 8 rfl
  have c9 := K3.out.cell 9 rfl
  have c10 := K3.out.cell 10 rfl
  have c11 := K3.out.cell 11 rfl
  refine bodyPost_ret (by simp [results, Tryd.results46, go_sem, c0, c1, c2, c3, c4, c5, c6, c7, c8, c9, c10, c11]; try rfl) rfl ?_
  exact ⟨_, rfl, K2.out⟩
set_option maxHeartbeats 3200000 in
set_option maxRecDepth 20000 in
theorem read_body (a : Option Addr) (n cap : Nat) (zs : List Int) (p : Nat → Addr) (w : World) (hn : n = zs.length) (hE : EnvAt w p) (hS : Slice w a cap zs) (hk : firstK zs = 0) (k : Nat) (hbody : ∀ ad c W, EnvAt W p → Slice W ad c ((getB zs).drop 20) → Calls Tryd.prog 71 #[.agg (headA (readHZ (getB zs))), .slice ad ((getB zs).drop 20).length c] W (BodyBad W (readHZ (getB zs)) p k)) :
    Calls Tryd.prog 46 #[.slice a n cap] w (ReadBad w p k) := by
  have HV : Hid (Var ((w.alloc (.cells #[.int .i64 0, .int .i64 0, .int .i64 0, .int .i64 0, .int .i64 0, .int .i64 0, .int .i64 0, .int .i64 0, .slice none 0 0, .int .i64 0, .slice none 0 0, .slice none 0 0] 28)).alloc (.cells #[.int .i64 0, .int .i64 0, .int .i64 0, .int .i64 0, .int .i64 0, .int .i64 0, .int .i64 0, .int .i64 0, .slice none 0 0, .int .i64 0, .slice none 0 0, .slice none 0 0] 28)) w.heap.size [.int .i64 0, .int .i64 0, .int .i64 0, .int .i64 0, .int .i64 0, .int .i64 0, .int .i64 0, .int .i64 0, .slice none 0 0, .int .i64 0, .slice none 0 0, .slice none 0 0]) := (var_new w [.int .i64 0, .int .i64 0, .int .i64 0, .int .i64 0, .int .i64 0, .int .i64 0, .int .i64 0, .int .i64 0, .slice none 0 0, .int .i64 0, .slice none 0 0, .slice none 0 0] _).alloc _
  have HO : Hid (Var ((w.alloc (.cells #[.int .i64 0, .int .i64 0, .int .i64 0, .int .i64 0, .int .i64 0, .int .i64 0, .int .i64 0, .int .i64 0, .slice none 0 0, .int .i64 0, .slice none 0 0, .slice none 0 0] 28)).alloc (.cells #[.int .i64 0, .int .i64 0, .int .i64 0, .int .i64 0, .int .i64 0, .int .i64 0, .int .i64 0, .int .i64 0, .slice none 0 0, .int .i64 0, .slice none 0 0, .slice none 0 0] 28)) (w.heap.size + 1) [.int .i64 0, .int .i64 0, .int .i64 0, .int .i64 0, .int .i64 0, .int .i64 0, .int .i64 0, .int .i64 0, .slice none 0 0, .int .i64 0, .slice none 0 0, .slice none 0 0]) := by
    have h1 := var_new (w.alloc (.cells #[.int .i64 0, .int .i64 0, .int .i64 0, .int .i64 0, .int .i64 0, .int .i64 0, .int .i64 0, .int .i64 0, .slice none 0 0, .int .i64 0, .slice none 0 0, .slice none 0 0] 28)) [.int .i64 0, .int .i64 0, .int .i64 0, .int .i64 0, .int .i64 0, .int .i64 0, .int .i64 0, .int .i64 0, .slice none 0 0, .int .i64 0, .slice none 0 0, .slice none 0 0] 28
    rw [size_new] at h1; exact h1
  have HB : Hid (Below w.heap.size w ((w.alloc (.cells #[.int .i64 0, .int .i64 0, .int .i64 0, .int .i64 0, .int .i64 0, .int .i64 0, .int .i64 0, .int .i64 0, .slice none 0 0, .int .i64 0, .slice none 0 0, .slice none 0 0] 28)).alloc (.cells #[.int .i64 0, .int .i64 0, .int .i64 0, .int .i64 0, .int .i64 0, .int .i64 0, .int .i64 0, .int .i64 0, .slice none 0 0, .int .i64 0, .slice none 0 0, .slice none 0 0] 28))) := (below_new' _ _).alloc (by simp) _
  have HE : Hid (EnvAt w p) := hE
  have HS : Hid (Slice w a cap zs) := hS
  have hfirst := fun W (hb : Below w.heap.size w W) => first_any a n cap zs p W hn (hE.below hb (Nat.le_refl _)) (hS.below hb)
  unfold FirstEnd at hfirst
  rw [hk] at hfirst
  clear hE hS hn
  go_enter Tryd.func46, Tryd.ntmps46
  go_upto_region 2 with fail
  generalize ((w.alloc (.cells #[.int .i64 0, .int .i64 0, .int .i64 0, .int .i64 0, .int .i64 0, .int .i64 0, .int .i64 0, .int .i64 0, .slice none 0 0, .int .i64 0, .slice none 0 0, .slice none 0 0] 28)).alloc (.cells #[.int .i64 0, .int .i64 0, .int .i64 0, .int .i64 0, .int .i64 0, .int .i64 0, .int .i64 0, .int .i64 0, .slice none 0 0, .int .i64 0, .slice none 0 0, .slice none 0 0] 28)) = W at *
  go_wp2_with fail
  refine (hfirst _ HB.out).mono ?_
  rintro e w3 ⟨hb, rfl⟩
  replace HV : Hid (Var w3 w.heap.size [.int .i64 0, .int .i64 0, .int .i64 0, .int .i64 0, .int .i64 0, .int .i64 0, .int .i64 0, .int .i64 0, .slice none 0 0, .int .i64 0, .slice none 0 0, .slice none 0 0]) := HV.out.below hb HV.out.lt
  replace HO : Hid (Var w3 (w.heap.size + 1) [.int .i64 0, .int .i64 0, .int .i64 0, .int .i64 0, .int .i64 0, .int .i64 0, .int .i64 0, .int .i64 0, .slice none 0 0, .int .i64 0, .slice none 0 0, .slice none 0 0]) := HO.out.below hb HO.out.lt
  replace HB : Hid (Below w.heap.size w w3) := below_more HB.out hb HB.out.size
  clear hb hfirst
  have hlen := getB_length hk
  have hz := firstK_zero hk
  have hroom := HS.out.room
  generalize hmm : (lenAt zs).toNat = m at *
  have HM : Hid ((getB zs).length = m) := hlen
  have hm20 : 20 ≤ m := by omega
  have hmc : m ≤ cap := by omega
  have HSB : Hid (Slice w a cap (getB zs)) := slice_take HS.out _
  clear hmm hz hlen hroom hk HS
  obtain ⟨b, off, rfl, _⟩ := slice_some HSB.out (by rw [HM.out]; omega)
  obtain ⟨ad, had, hsl⟩ := slice_ad HSB.out (m := 20) (by rw [HM.out]; omega)
  have HSL : Hid (Slice w ad (cap - 20) ((getB zs).drop 20)) := hsl
  have FR : ∀ X, (Two0 w X) → Calls Tryd.prog 51 #[.slice (some ⟨b, off, none⟩) m cap] X fun e w' => e = .returned (.agg (headA (readHZ (getB zs)))) ∧ (Two0 w w') ∧ Below X.heap.size X w' := by
    intro X hX
    obtain ⟨b', off', e, hcell⟩ := slice_some (HSB.out.below hX.2.2) (by rw [HM.out]; omega)
    cases e
    have hl := HSB.out.len
    refine (readHead_any b off m cap (getB zs) X (fun i hi => hcell i (by rw [HM.out]; exact hi)) HSB.out.bd hm20 (by rw [HM.out] at hl; omega) hmc).mono ?_
    rintro e w' ⟨rfl, hb⟩
    exact ⟨rfl, hX.below hb, hb⟩
  have hbl : ((getB zs).drop 20).length = m - 20 := by rw [List.length_drop, HM.out]
  have FB : ∀ X, (Two0 w X) → Calls Tryd.prog 71 #[.agg (headA (readHZ (getB zs))), .slice ad (m - 20) (cap - 20)] X fun e w' => ∃ str, e = .returned (.tuple #[.agg #[.int .i64 (readHZ (getB zs)).age, .int .i64 (readHZ (getB zs)).kind, .int .i64 (readHZ (getB zs)).id, .int .i64 (readHZ (getB zs)).adv, .int .i64 (readHZ (getB zs)).seq, .int .i64 (readHZ (getB zs)).sum, .int .i64 (readHZ (getB zs)).len, .int .i64 0, .slice none 0 0, .int .i64 0, .slice none 0 0, .slice none 0 0], faultV str (p k)]) ∧ (Two0 w w') ∧ Below X.heap.size X w' := by
    intro X hX
    have hc := hbody ad (cap - 20) X (HE.out.below hX.2.2 (Nat.le_refl _)) (HSL.out.below hX.2.2)
    rw [hbl] at hc
    refine hc.mono ?_
    rintro e w' ⟨str, rfl, hb⟩
    exact ⟨str, rfl, hX.below hb, hb⟩
  have KW3 : Hid (Two0 w w3) := ⟨HV.out, HO.out, HB.out⟩
  have KD3 : Hid (Two0 w w3.drew) := ⟨HV.out.drew, HO.out.drew, HB.out.drew⟩
  clear hbl hbody hsl
  generalize readHZ (getB zs) = h at *
  have i20 : (20 : Int) ≤ (m : Int) := by omega
  have imc : (m : Int) ≤ (cap : Int) := by omega
  have ic2 : (20 : Int) ≤ (cap : Int) := by omega
  go_upto_region 5 with fail
  go_cut [5, 6] from 16 (fun ev v wx => ∃ str g6, ev = faultV str (p k) ∧ v = .pointer (some ⟨g6, 0, none⟩) ∧ Two0 w wx)
  case first =>
    go_region_held3 (fun X => (Two0 w X)) (with_reducible first | exact KW3.out | exact KD3.out | exact hk4 | exact hk5 | exact hk5.put hk4.room _ _ _ _ _ _ _ _ _ _ _ _ | exact hk5.put KW3.out.room _ _ _ _ _ _ _ _ _ _ _ _ | exact (hk5.alloc _).put hk5.room _ _ _ _ _ _ _ _ _ _ _ _ | (repeat (first | refine Two0.drew ?_ | refine Two0.alloc ?_ _)) <;> first | exact KW3.out | exact hk4 | exact hk5 | fail)
      (first | (go_at_call 51; refine (FR _ (by assumption)).mono ?_; rintro e w4 ⟨rfl, hk4, hb4⟩; have hcl4 := fun (p : Addr) (h : p.block < _) => hb4.cell (p := p) h; have hfr4 := fun (p : Addr) (h : p.block < _) => hb4.frozen (p := p) h; have hsz4 := fun (i : Nat) (h : i < _) => Nat.lt_of_lt_of_le h hb4.size) | (go_at_call 71; refine (FB _ (by assumption)).mono ?_; rintro e w5 ⟨str, rfl, hk5, hb5⟩; have hcl5 := fun (p : Addr) (h : p.block < _) => hb5.cell (p := p) h; have hfr5 := fun (p : Addr) (h : p.block < _) => hb5.frozen (p := p) h) | fail)
    all_goals go_wp2
    all_goals go_meet
    · exact ⟨str, _, rfl, rfl, hk5.alloc _⟩
    · exact ⟨str, _, rfl, rfl, hk5.put hk4.room _ _ _ _ _ _ _ _ _ _ _ _⟩
    · exact ⟨str, _, rfl, rfl, hk5.put KW3.out.room _ _ _ _ _ _ _ _ _ _ _ _⟩
  case rest =>
    obtain ⟨str, g6, rfl, rfl, hT⟩ := hcut
    have HV : Hid (Var wc w.heap.size [.int .i64 0, .int .i64 0, .int .i64 0, .int .i64 0, .int .i64 0, .int .i64 0, .int .i64 0, .int .i64 0, .slice none 0 0, .int .i64 0, .slice none 0 0, .slice none 0 0]) := hT.1
    have HO : Hid (Var wc (w.heap.size + 1) [.int .i64 0, .int .i64 0, .int .i64 0, .int .i64 0, .int .i64 0, .int .i64 0, .int .i64 0, .int .i64 0, .slice none 0 0, .int .i64 0, .slice none 0 0, .slice none 0 0]) := hT.2.1
    have HB : Hid (Below w.heap.size w wc) := hT.2.2
    clear hT KW3 KD3 FR FB
    have K3 : Hid (Var ((((((((((((wc.setCell ⟨w.heap.size, 0, none⟩ (.int .i64 0)).setCell ⟨w.heap.size, 1, none⟩ (.int .i64 0)).setCell ⟨w.heap.size, 2, none⟩ (.int .i64 0)).setCell ⟨w.heap.size, 3, none⟩ (.int .i64 0)).setCell ⟨w.heap.size, 4, none⟩ (.int .i64 0)).setCell ⟨w.heap.size, 5, none⟩ (.int .i64 0)).setCell ⟨w.heap.size, 6, none⟩ (.int .i64 0)).setCell ⟨w.heap.size, 7, none⟩ (.int .i64 0)).setCell ⟨w.heap.size, 8, none⟩ (.slice none 0 0)).setCell ⟨w.heap.size, 9, none⟩ (.int .i64 0)).setCell ⟨w.heap.size, 10, none⟩ (.slice none 0 0)).setCell ⟨w.heap.size, 11, none⟩ (.slice none 0 0)) w.heap.size [.int .i64 0, .int .i64 0, .int .i64 0, .int .i64 0, .int .i64 0, .int .i64 0, .int .i64 0, .int .i64 0, .slice none 0 0, .int .i64 0, .slice none 0 0, .slice none 0 0]) := HV.out.put12 (.int .i64 0) (.int .i64 0) (.int .i64 0) (.int .i64 0) (.int .i64 0) (.int .i64 0) (.int .i64 0) (.int .i64 0) (.slice none 0 0) (.int .i64 0) (.slice none 0 0) (.slice none 0 0)
    have K2 : Hid (Below w.heap.size w ((((((((((((wc.setCell ⟨w.heap.size, 0, none⟩ (.int .i64 0)).setCell ⟨w.heap.size, 1, none⟩ (.int .i64 0)).setCell ⟨w.heap.size, 2, none⟩ (.int .i64 0)).setCell ⟨w.heap.size, 3, none⟩ (.int .i64 0)).setCell ⟨w.heap.size, 4, none⟩ (.int .i64 0)).setCell ⟨w.heap.size, 5, none⟩ (.int .i64 0)).setCell ⟨w.heap.size, 6, none⟩ (.int .i64 0)).setCell ⟨w.heap.size, 7, none⟩ (.int .i64 0)).setCell ⟨w.heap.size, 8, none⟩ (.slice none 0 0)).setCell ⟨w.heap.size, 9, none⟩ (.int .i64 0)).setCell ⟨w.heap.size, 10, none⟩ (.slice none 0 0)).setCell ⟨w.heap.size, 11, none⟩ (.slice none 0 0))) := below_put12 HB.out (Nat.le_refl _) (.int .i64 0) (.int .i64 0) (.int .i64 0) (.int .i64 0) (.int .i64 0) (.int .i64 0) (.int .i64 0) (.int .i64 0) (.slice none 0 0) (.int .i64 0) (.slice none 0 0) (.slice none 0 0)
    have a0 := HO.out.cell 0 rfl
    have a1 := HO.out.cell 1 rfl
    have a2 := HO.out.cell 2 rfl
    have a3 := HO.out.cell 3 rfl
    have a4 := HO.out.cell 4 rfl
    have a5 := HO.out.cell 5 rfl
    have a6 := HO.out.cell 6 rfl
    have a7 := HO.out.cell 7 rfl
    have a8 := HO.out.cell 8 rfl
    have a9 := HO.out.cell 9 rfl
    have a10 := HO.out.cell 10 rfl
    have a11 := HO.out.cell 11 rfl
    have r0 := HV.out.cell 0 rfl
    have r1 := HV.out.cell 1 rfl
    have r2 := HV.out.cell 2 rfl
    have r3 := HV.out.cell 3 rfl
    have r4 := HV.out.cell 4 rfl
    have r5 := HV.out.cell 5 rfl
    have r6 := HV.out.cell 6 rfl
    have r7 := HV.out.cell 7 rfl
    have r8 := HV.out.cell 8 rfl
    have r9 := HV.out.cell 9 rfl
    have r10 := HV.out.cell 10 rfl
    have r11 := HV.out.cell 11 rfl
    have q0 := HV.out.frozen 0
    have q1 := HV.out.frozen 1
    have q2 := HV.out.frozen 2
    have q3 := HV.out.frozen 3
    have q4 := HV.out.frozen 4
    have q5 := HV.out.frozen 5
    have q6 := HV.out.frozen 6
    have q7 := HV.out.frozen 7
    have q8 := HV.out.frozen 8
    have q9 := HV.out.frozen 9
    have q10 := HV.out.frozen 10
    have q11 := HV.out.frozen 11
    go_wp2
    clear a0 a1 a2 a3 a4 a5 a6 a7 a8 a9 a10 a11 r0 r1 r2 r3 r4 r5 r6 r7 r8 r9 r10 r11 q0 q1 q2 q3 q4 q5 q6 q7 q8 q9 q10 q11
    generalize ((((((((((((wc.setCell ⟨w.heap.size, 0, none⟩ (.int .i64 0)).setCell ⟨w.heap.size, 1, none⟩ (.int .i64 0)).setCell ⟨w.heap.size, 2, none⟩ (.int .i64 0)).setCell ⟨w.heap.size, 3, none⟩ (.int .i64 0)).setCell ⟨w.heap.size, 4, none⟩ (.int .i64 0)).setCell ⟨w.heap.size, 5, none⟩ (.int .i64 0)).setCell ⟨w.heap.size, 6, none⟩ (.int .i64 0)).setCell ⟨w.heap.size, 7, none⟩ (.int .i64 0)).setCell ⟨w.heap.size, 8, none⟩ (.slice none 0 0)).setCell ⟨w.heap.size, 9, none⟩ (.int .i64 0)).setCell ⟨w.heap.size, 10, none⟩ (.slice none 0 0)).setCell ⟨w.heap.size, 11, none⟩ (.slice none 0 0)) = Z at *
    have c0 := K3.out.cell 0 rfl
    have c1 := K3.out.cell 1 rfl
    have c2 := K3.out.cell 2 rfl
    have c3 := K3.out.cell 3 rfl
    have c4 := K3.out.cell 4 rfl
    have c5 := K3.out.cell 5 rfl
    have c6 := K3.out.cell 6 rfl
    have c7 := K3.out.cell 7 rfl
    have c8 := K3.out.cell 8 rfl
    have c9 := K3.out.cell 9 rfl
    have c10 := K3.out.cell 10 rfl
    have c11 := K3.out.cell 11 rfl
    refine bodyPost_ret (by simp [results, Tryd.results46, go_sem, c0, c1, c2, c3, c4, c5, c6, c7, c8, c9, c10, c11]; try rfl) rfl ?_
    exact ⟨_, rfl, K2.out⟩
end Go.Proofs.YtoanjhccbmifmaaDoor
