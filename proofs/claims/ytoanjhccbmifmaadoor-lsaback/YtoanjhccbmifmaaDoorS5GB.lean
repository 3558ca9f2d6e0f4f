/- Bodies read from bytes. -/
import Derived.Test.YtoanjhccbmifmaaDoorS5GA
import Derived.Test.YtoanjhccbmifmaaDoorS5W17
namespace Go.Proofs.YtoanjhccbmifmaaDoor
open Go.RowKit
set_option linter.unusedVariables false

/-- What a body's bytes say. -/
def bodyOf (h : HeadZ) (zs : List Int) : LsaZ :=
  if h.kind = 1 then ⟨h, zs.getD 0 0, readL 12 readLZ (zs.drop 4), 0, [], []⟩
  else if h.kind = 2 then ⟨h, 0, [], bitsZ (num4At zs 0), readL 4 readIZ (zs.drop 4), []⟩
  else ⟨h, 0, [], 0, [], readL 8 readVZ zs⟩
/-- The lists lie in new memory. -/
def FarS (N : Nat) (s : Seats) : Prop := Far N s.la ∧ Far N s.ra ∧ Far N s.va
theorem far_none (N : Nat) : Far N none := fun _ h => by cases h
/-- How readBody ends: with an advertisement, or with a fault beside whatever. -/
def BodyOk (w : World) (l : LsaZ) (e : Ending) (w' : World) : Prop := ∃ s', e = .returned (.tuple #[.agg (lsaA s' l), .nilIface]) ∧ Held w' s' l ∧ Nils s' ∧ FarS w.heap.size s' ∧ Below w.heap.size w w'
def BodyBad (w : World) (h : HeadZ) (p : Nat → Addr) (k : Nat) (e : Ending) (w' : World) : Prop := ∃ str, e = .returned (.tuple #[.agg #[.int .i64 h.age, .int .i64 h.kind, .int .i64 h.id, .int .i64 h.adv, .int .i64 h.seq, .int .i64 h.sum, .int .i64 h.len, .int .i64 0, .slice none 0 0, .int .i64 0, .slice none 0 0, .slice none 0 0], faultV str (p k)]) ∧ Below w.heap.size w w'
theorem lies_none (w : World) (a : Option Addr) : Lies w a [] := .inl rfl
set_option maxHeartbeats 3200000 in
set_option maxRecDepth 20000 in
theorem readBody_kind (h : HeadZ) (a : Option Addr) (n cap : Nat) (zs : List Int) (p : Nat → Addr) (w : World) (hn : n = zs.length) (hE : EnvAt w p) (hS : Slice w a cap zs) (h1 : ¬ h.kind = 1) (h2 : ¬ h.kind = 2) (h6 : ¬ h.kind = 6) :
    Calls Tryd.prog 71 #[.agg (headA h), .slice a n cap] w (BodyBad w h p 4) := by
  have e1 : (h.kind == 1) = false := by simp [h1]
  have e2 : (h.kind == 2) = false := by simp [h2]
  have e6 : (h.kind == 6) = false := by simp [h6]
  clear h1 h2 h6 hn
  have HX : Hid (HBox (w.alloc (.cells (headA h) 23)) w.heap.size h) := hbox_new w h
  have HB0 : Below (w.heap.size + 1) (w.alloc (.cells (headA h) 23)) (((w.alloc (.cells (headA h) 23)).alloc (.cells #[.int .i64 0, .int .i64 0, .int .i64 0, .int .i64 0, .int .i64 0, .int .i64 0, .int .i64 0, .int .i64 0, .slice none 0 0, .int .i64 0, .slice none 0 0, .slice none 0 0] 28)).alloc (.cells #[.int .i64 h.age, .int .i64 h.kind, .int .i64 h.id, .int .i64 h.adv, .int .i64 h.seq, .int .i64 h.sum, .int .i64 h.len, .int .i64 0, .slice none 0 0, .int .i64 0, .slice none 0 0, .slice none 0 0] 28)) := ((Below.refl _ _).alloc (by simp) _).alloc (by simp) _
  have HB : Hid (Below w.heap.size w (((w.alloc (.cells (headA h) 23)).alloc (.cells #[.int .i64 0, .int .i64 0, .int .i64 0, .int .i64 0, .int .i64 0, .int .i64 0, .int .i64 0, .int .i64 0, .slice none 0 0, .int .i64 0, .slice none 0 0, .slice none 0 0] 28)).alloc (.cells #[.int .i64 h.age, .int .i64 h.kind, .int .i64 h.id, .int .i64 h.adv, .int .i64 h.seq, .int .i64 h.sum, .int .i64 h.len, .int .i64 0, .slice none 0 0, .int .i64 0, .slice none 0 0, .slice none 0 0] 28))) := ((below_new' _ _).alloc (by simp) _).alloc (by simp; omega) _
  have HR : Hid (Var (((w.alloc (.cells (headA h) 23)).alloc (.cells #[.int .i64 0, .int .i64 0, .int .i64 0, .int .i64 0, .int .i64 0, .int .i64 0, .int .i64 0, .int .i64 0, .slice none 0 0, .int .i64 0, .slice none 0 0, .slice none 0 0] 28)).alloc (.cells #[.int .i64 h.age, .int .i64 h.kind, .int .i64 h.id, .int .i64 h.adv, .int .i64 h.seq, .int .i64 h.sum, .int .i64 h.len, .int .i64 0, .slice none 0 0, .int .i64 0, .slice none 0 0, .slice none 0 0] 28)) (w.heap.size + 1) [.int .i64 0, .int .i64 0, .int .i64 0, .int .i64 0, .int .i64 0, .int .i64 0, .int .i64 0, .int .i64 0, .slice none 0 0, .int .i64 0, .slice none 0 0, .slice none 0 0]) := by
    have h1 := (var_new (w.alloc (.cells (headA h) 23)) [.int .i64 0, .int .i64 0, .int .i64 0, .int .i64 0, .int .i64 0, .int .i64 0, .int .i64 0, .int .i64 0, .slice none 0 0, .int .i64 0, .slice none 0 0, .slice none 0 0] 28).alloc (.cells #[.int .i64 h.age, .int .i64 h.kind, .int .i64 h.id, .int .i64 h.adv, .int .i64 h.seq, .int .i64 h.sum, .int .i64 h.len, .int .i64 0, .slice none 0 0, .int .i64 0, .slice none 0 0, .slice none 0 0] 28)
    rw [size_new] at h1; exact h1
  have HL : Hid (Var (((w.alloc (.cells (headA h) 23)).alloc (.cells #[.int .i64 0, .int .i64 0, .int .i64 0, .int .i64 0, .int .i64 0, .int .i64 0, .int .i64 0, .int .i64 0, .slice none 0 0, .int .i64 0, .slice none 0 0, .slice none 0 0] 28)).alloc (.cells #[.int .i64 h.age, .int .i64 h.kind, .int .i64 h.id, .int .i64 h.adv, .int .i64 h.seq, .int .i64 h.sum, .int .i64 h.len, .int .i64 0, .slice none 0 0, .int .i64 0, .slice none 0 0, .slice none 0 0] 28)) (w.heap.size + 2) [.int .i64 h.age, .int .i64 h.kind, .int .i64 h.id, .int .i64 h.adv, .int .i64 h.seq, .int .i64 h.sum, .int .i64 h.len, .int .i64 0, .slice none 0 0, .int .i64 0, .slice none 0 0, .slice none 0 0]) := by
    have h1 := var_new ((w.alloc (.cells (headA h) 23)).alloc (.cells #[.int .i64 0, .int .i64 0, .int .i64 0, .int .i64 0, .int .i64 0, .int .i64 0, .int .i64 0, .int .i64 0, .slice none 0 0, .int .i64 0, .slice none 0 0, .slice none 0 0] 28)) [.int .i64 h.age, .int .i64 h.kind, .int .i64 h.id, .int .i64 h.adv, .int .i64 h.seq, .int .i64 h.sum, .int .i64 h.len, .int .i64 0, .slice none 0 0, .int .i64 0, .slice none 0 0, .slice none 0 0] 28
    rw [size_new, size_new] at h1; exact h1
  replace HX : Hid (HBox (((w.alloc (.cells (headA h) 23)).alloc (.cells #[.int .i64 0, .int .i64 0, .int .i64 0, .int .i64 0, .int .i64 0, .int .i64 0, .int .i64 0, .int .i64 0, .slice none 0 0, .int .i64 0, .slice none 0 0, .slice none 0 0] 28)).alloc (.cells #[.int .i64 h.age, .int .i64 h.kind, .int .i64 h.id, .int .i64 h.adv, .int .i64 h.seq, .int .i64 h.sum, .int .i64 h.len, .int .i64 0, .slice none 0 0, .int .i64 0, .slice none 0 0, .slice none 0 0] 28)) w.heap.size h) := HX.out.below HB0 (by omega)
  have HE : Hid (EnvAt w p) := hE
  have HS : Hid (Slice w a cap zs) := hS
  clear HB0 hE hS
  go_enter Tryd.func71, Tryd.ntmps71
  go_upto_region 2 with fail
  generalize (((w.alloc (.cells (headA h) 23)).alloc (.cells #[.int .i64 0, .int .i64 0, .int .i64 0, .int .i64 0, .int .i64 0, .int .i64 0, .int .i64 0, .int .i64 0, .slice none 0 0, .int .i64 0, .slice none 0 0, .slice none 0 0] 28)).alloc (.cells #[.int .i64 h.age, .int .i64 h.kind, .int .i64 h.id, .int .i64 h.adv, .int .i64 h.seq, .int .i64 h.sum, .int .i64 h.len, .int .i64 0, .slice none 0 0, .int .i64 0, .slice none 0 0, .slice none 0 0] 28)) = W at *
  obtain ⟨x0, x1, x2, x3, x4, x5, x6⟩ := HX.out
  clear x0 x2 x3 x4 x5 x6
  go_upto_region 3 with fail
  have KS : Hid (∀ X, Var X (w.heap.size + 2) [.int .i64 h.age, .int .i64 h.kind, .int .i64 h.id, .int .i64 h.adv, .int .i64 h.seq, .int .i64 h.sum, .int .i64 h.len, .int .i64 0, .slice none 0 0, .int .i64 0, .slice none 0 0, .slice none 0 0] → Below w.heap.size w X → X.cell? ⟨w.heap.size + 2, 0, none⟩ = some (.int .i64 h.age) ∧ X.cell? ⟨w.heap.size + 2, 1, none⟩ = some (.int .i64 h.kind) ∧ X.cell? ⟨w.heap.size + 2, 2, none⟩ = some (.int .i64 h.id) ∧ X.cell? ⟨w.heap.size + 2, 3, none⟩ = some (.int .i64 h.adv) ∧ X.cell? ⟨w.heap.size + 2, 4, none⟩ = some (.int .i64 h.seq) ∧ X.cell? ⟨w.heap.size + 2, 5, none⟩ = some (.int .i64 h.sum) ∧ X.cell? ⟨w.heap.size + 2, 6, none⟩ = some (.int .i64 h.len) ∧ X.cell? ⟨w.heap.size + 2, 7, none⟩ = some (.int .i64 0) ∧ X.cell? ⟨w.heap.size + 2, 8, none⟩ = some (.slice none 0 0) ∧ X.cell? ⟨w.heap.size + 2, 9, none⟩ = some (.int .i64 0) ∧ X.cell? ⟨w.heap.size + 2, 10, none⟩ = some (.slice none 0 0) ∧ X.cell? ⟨w.heap.size + 2, 11, none⟩ = some (.slice none 0 0) ∧ X.cell? ⟨4, 0, none⟩ = some (.iface 125 (.pointer (some (p 4)))) ∧ Hid (Var X (w.heap.size + 2) [.int .i64 h.age, .int .i64 h.kind, .int .i64 h.id, .int .i64 h.adv, .int .i64 h.seq, .int .i64 h.sum, .int .i64 h.len, .int .i64 0, .slice none 0 0, .int .i64 0, .slice none 0 0, .slice none 0 0] ∧ Below w.heap.size w X)) := fun X hv hb => ⟨hv.cell 0 rfl, hv.cell 1 rfl, hv.cell 2 rfl, hv.cell 3 rfl, hv.cell 4 rfl, hv.cell 5 rfl, hv.cell 6 rfl, hv.cell 7 rfl, hv.cell 8 rfl, hv.cell 9 rfl, hv.cell 10 rfl, hv.cell 11 rfl, (HE.out.below hb (Nat.le_refl _)).var 4 (by decide), hv, hb⟩
  have hne : w.heap.size + 1 ≠ w.heap.size + 2 := by omega
  have K1 : Hid (Var ((((((((((((W.setCell ⟨w.heap.size + 1, 0, none⟩ (.int .i64 h.age)).setCell ⟨w.heap.size + 1, 1, none⟩ (.int .i64 h.kind)).setCell ⟨w.heap.size + 1, 2, none⟩ (.int .i64 h.id)).setCell ⟨w.heap.size + 1, 3, none⟩ (.int .i64 h.adv)).setCell ⟨w.heap.size + 1, 4, none⟩ (.int .i64 h.seq)).setCell ⟨w.heap.size + 1, 5, none⟩ (.int .i64 h.sum)).setCell ⟨w.heap.size + 1, 6, none⟩ (.int .i64 h.len)).setCell ⟨w.heap.size + 1, 7, none⟩ (.int .i64 0)).setCell ⟨w.heap.size + 1, 8, none⟩ (.slice none 0 0)).setCell ⟨w.heap.size + 1, 9, none⟩ (.int .i64 0)).setCell ⟨w.heap.size + 1, 10, none⟩ (.slice none 0 0)).setCell ⟨w.heap.size + 1, 11, none⟩ (.slice none 0 0)) (w.heap.size + 2) [.int .i64 h.age, .int .i64 h.kind, .int .i64 h.id, .int .i64 h.adv, .int .i64 h.seq, .int .i64 h.sum, .int .i64 h.len, .int .i64 0, .slice none 0 0, .int .i64 0, .slice none 0 0, .slice none 0 0]) := HL.out.put12' hne (.int .i64 h.age) (.int .i64 h.kind) (.int .i64 h.id) (.int .i64 h.adv) (.int .i64 h.seq) (.int .i64 h.sum) (.int .i64 h.len) (.int .i64 0) (.slice none 0 0) (.int .i64 0) (.slice none 0 0) (.slice none 0 0)
  have K2 : Hid (Below w.heap.size w ((((((((((((W.setCell ⟨w.heap.size + 1, 0, none⟩ (.int .i64 h.age)).setCell ⟨w.heap.size + 1, 1, none⟩ (.int .i64 h.kind)).setCell ⟨w.heap.size + 1, 2, none⟩ (.int .i64 h.id)).setCell ⟨w.heap.size + 1, 3, none⟩ (.int .i64 h.adv)).setCell ⟨w.heap.size + 1, 4, none⟩ (.int .i64 h.seq)).setCell ⟨w.heap.size + 1, 5, none⟩ (.int .i64 h.sum)).setCell ⟨w.heap.size + 1, 6, none⟩ (.int .i64 h.len)).setCell ⟨w.heap.size + 1, 7, none⟩ (.int .i64 0)).setCell ⟨w.heap.size + 1, 8, none⟩ (.slice none 0 0)).setCell ⟨w.heap.size + 1, 9, none⟩ (.int .i64 0)).setCell ⟨w.heap.size + 1, 10, none⟩ (.slice none 0 0)).setCell ⟨w.heap.size + 1, 11, none⟩ (.slice none 0 0))) := below_put12 HB.out (by omega) (.int .i64 h.age) (.int .i64 h.kind) (.int .i64 h.id) (.int .i64 h.adv) (.int .i64 h.seq) (.int .i64 h.sum) (.int .i64 h.len) (.int .i64 0) (.slice none 0 0) (.int .i64 0) (.slice none 0 0) (.slice none 0 0)
  have K3 : Hid (Var ((((((((((((W.setCell ⟨w.heap.size + 1, 0, none⟩ (.int .i64 h.age)).setCell ⟨w.heap.size + 1, 1, none⟩ (.int .i64 h.kind)).setCell ⟨w.heap.size + 1, 2, none⟩ (.int .i64 h.id)).setCell ⟨w.heap.size + 1, 3, none⟩ (.int .i64 h.adv)).setCell ⟨w.heap.size + 1, 4, none⟩ (.int .i64 h.seq)).setCell ⟨w.heap.size + 1, 5, none⟩ (.int .i64 h.sum)).setCell ⟨w.heap.size + 1, 6, none⟩ (.int .i64 h.len)).setCell ⟨w.heap.size + 1, 7, none⟩ (.int .i64 0)).setCell ⟨w.heap.size + 1, 8, none⟩ (.slice none 0 0)).setCell ⟨w.heap.size + 1, 9, none⟩ (.int .i64 0)).setCell ⟨w.heap.size + 1, 10, none⟩ (.slice none 0 0)).setCell ⟨w.heap.size + 1, 11, none⟩ (.slice none 0 0)) (w.heap.size + 1) [.int .i64 h.age, .int .i64 h.kind, .int .i64 h.id, .int .i64 h.adv, .int .i64 h.seq, .int .i64 h.sum, .int .i64 h.len, .int .i64 0, .slice none 0 0, .int .i64 0, .slice none 0 0, .slice none 0 0]) := HR.out.put12 (.int .i64 h.age) (.int .i64 h.kind) (.int .i64 h.id) (.int .i64 h.adv) (.int .i64 h.seq) (.int .i64 h.sum) (.int .i64 h.len) (.int .i64 0) (.slice none 0 0) (.int .i64 0) (.slice none 0 0) (.slice none 0 0)
  have K4 : Hid (Below w.heap.size w W.drew) := HB.out.drew
  have K5 : Hid (Below w.heap.size w ((((((((((((W.setCell ⟨w.heap.size + 1, 0, none⟩ (.int .i64 h.age)).setCell ⟨w.heap.size + 1, 1, none⟩ (.int .i64 h.kind)).setCell ⟨w.heap.size + 1, 2, none⟩ (.int .i64 h.id)).setCell ⟨w.heap.size + 1, 3, none⟩ (.int .i64 h.adv)).setCell ⟨w.heap.size + 1, 4, none⟩ (.int .i64 h.seq)).setCell ⟨w.heap.size + 1, 5, none⟩ (.int .i64 h.sum)).setCell ⟨w.heap.size + 1, 6, none⟩ (.int .i64 h.len)).setCell ⟨w.heap.size + 1, 7, none⟩ (.int .i64 0)).setCell ⟨w.heap.size + 1, 8, none⟩ (.slice none 0 0)).setCell ⟨w.heap.size + 1, 9, none⟩ (.int .i64 0)).setCell ⟨w.heap.size + 1, 10, none⟩ (.slice none 0 0)).setCell ⟨w.heap.size + 1, 11, none⟩ (.slice none 0 0)).drew) := K2.out.drew
  have r0 := HR.out.cell 0 rfl
  have q0 := HR.out.frozen 0
  have r1 := HR.out.cell 1 rfl
  have q1 := HR.out.frozen 1
  have r2 := HR.out.cell 2 rfl
  have q2 := HR.out.frozen 2
  have r3 := HR.out.cell 3 rfl
  have q3 := HR.out.frozen 3
  have r4 := HR.out.cell 4 rfl
  have q4 := HR.out.frozen 4
  have r5 := HR.out.cell 5 rfl
  have q5 := HR.out.frozen 5
  have r6 := HR.out.cell 6 rfl
  have q6 := HR.out.frozen 6
  have r7 := HR.out.cell 7 rfl
  have q7 := HR.out.frozen 7
  have r8 := HR.out.cell 8 rfl
  have q8 := HR.out.frozen 8
  have r9 := HR.out.cell 9 rfl
  have q9 := HR.out.frozen 9
  have r10 := HR.out.cell 10 rfl
  have q10 := HR.out.frozen 10
  have r11 := HR.out.cell 11 rfl
  have q11 := HR.out.frozen 11
  clear hne
  go_region_held3 (fun X => X.cell? ⟨w.heap.size + 2, 0, none⟩ = some (.int .i64 h.age) ∧ X.cell? ⟨w.heap.size + 2, 1, none⟩ = some (.int .i64 h.kind) ∧ X.cell? ⟨w.heap.size + 2, 2, none⟩ = some (.int .i64 h.id) ∧ X.cell? ⟨w.heap.size + 2, 3, none⟩ = some (.int .i64 h.adv) ∧ X.cell? ⟨w.heap.size + 2, 4, none⟩ = some (.int .i64 h.seq) ∧ X.cell? ⟨w.heap.size + 2, 5, none⟩ = some (.int .i64 h.sum) ∧ X.cell? ⟨w.heap.size + 2, 6, none⟩ = some (.int .i64 h.len) ∧ X.cell? ⟨w.heap.size + 2, 7, none⟩ = some (.int .i64 0) ∧ X.cell? ⟨w.heap.size + 2, 8, none⟩ = some (.slice none 0 0) ∧ X.cell? ⟨w.heap.size + 2, 9, none⟩ = some (.int .i64 0) ∧ X.cell? ⟨w.heap.size + 2, 10, none⟩ = some (.slice none 0 0) ∧ X.cell? ⟨w.heap.size + 2, 11, none⟩ = some (.slice none 0 0) ∧ X.cell? ⟨4, 0, none⟩ = some (.iface 125 (.pointer (some (p 4)))) ∧ Hid (Var X (w.heap.size + 2) [.int .i64 h.age, .int .i64 h.kind, .int .i64 h.id, .int .i64 h.adv, .int .i64 h.seq, .int .i64 h.sum, .int .i64 h.len, .int .i64 0, .slice none 0 0, .int .i64 0, .slice none 0 0, .slice none 0 0] ∧ Below w.heap.size w X)) (with_reducible first | exact KS.out _ HL.out HB.out | exact KS.out _ HL.out.drew K4.out | exact KS.out _ K1.out K2.out | exact KS.out _ K1.out.drew K5.out | fail)
    (first | (go_at_call 56; refine (wrap_any _ _ _ _).mono ?_; rintro e w' ⟨rfl, rfl⟩) | fail)
  rename_i hH
  clear hH KS r0 r1 r2 r3 r4 r5 r6 r7 r8 r9 r10 r11 q0 q1 q2 q3 q4 q5 q6 q7 q8 q9 q10 q11
  replace K3 : Hid (Var ((((((((((((W.setCell ⟨w.heap.size + 1, 0, none⟩ (.int .i64 h.age)).setCell ⟨w.heap.size + 1, 1, none⟩ (.int .i64 h.kind)).setCell ⟨w.heap.size + 1, 2, none⟩ (.int .i64 h.id)).setCell ⟨w.heap.size + 1, 3, none⟩ (.int .i64 h.adv)).setCell ⟨w.heap.size + 1, 4, none⟩ (.int .i64 h.seq)).setCell ⟨w.heap.size + 1, 5, none⟩ (.int .i64 h.sum)).setCell ⟨w.heap.size + 1, 6, none⟩ (.int .i64 h.len)).setCell ⟨w.heap.size + 1, 7, none⟩ (.int .i64 0)).setCell ⟨w.heap.size + 1, 8, none⟩ (.slice none 0 0)).setCell ⟨w.heap.size + 1, 9, none⟩ (.int .i64 0)).setCell ⟨w.heap.size + 1, 10, none⟩ (.slice none 0 0)).setCell ⟨w.heap.size + 1, 11, none⟩ (.slice none 0 0)).drew (w.heap.size + 1) [.int .i64 h.age, .int .i64 h.kind, .int .i64 h.id, .int .i64 h.adv, .int .i64 h.seq, .int .i64 h.sum, .int .i64 h.len, .int .i64 0, .slice none 0 0, .int .i64 0, .slice none 0 0, .slice none 0 0]) := K3.out.drew
  clear K1 K2 K4
  generalize ((((((((((((W.setCell ⟨w.heap.size + 1, 0, none⟩ (.int .i64 h.age)).setCell ⟨w.heap.size + 1, 1, none⟩ (.int .i64 h.kind)).setCell ⟨w.heap.size + 1, 2, none⟩ (.int .i64 h.id)).setCell ⟨w.heap.size + 1, 3, none⟩ (.int .i64 h.adv)).setCell ⟨w.heap.size + 1, 4, none⟩ (.int .i64 h.seq)).setCell ⟨w.heap.size + 1, 5, none⟩ (.int .i64 h.sum)).setCell ⟨w.heap.size + 1, 6, none⟩ (.int .i64 h.len)).setCell ⟨w.heap.size + 1, 7, none⟩ (.int .i64 0)).setCell ⟨w.heap.size + 1, 8, none⟩ (.slice none 0 0)).setCell ⟨w.heap.size + 1, 9, none⟩ (.int .i64 0)).setCell ⟨w.heap.size + 1, 10, none⟩ (.slice none 0 0)).setCell ⟨w.heap.size + 1, 11, none⟩ (.slice none 0 0)).drew = Z at *
  have c0 := K3.out.cell 0 rfl
  have c1 := K3.out.cell 1 rfl
  have c2 := K3.out.cell 2 rfl
  have c3 := K3.out.cell 3 rfl
  have c4 := K3.out.cell 4 rfl
  have c5 := K3.out.cell 5 rfl
  have c6 := K3.out.cell 6 rfl
  have c7 := K3.out.cell 7 rfl
  have c8 := K3.out.cell 8 rfl
  have c9 := K3.out.cell 9 rfl
  have c10 := K3.out.cell 10 rfl
  have c11 := K3.out.cell 11 rfl
  go_wp2
  refine bodyPost_ret (by simp [results, Tryd.results71, go_sem, c0, c1, c2, c3, c4, c5, c6, c7, c8, c9, c10, c11]; try rfl) rfl ?_
  exact ⟨_, rfl, K5.out⟩
set_option maxHeartbeats 3200000 in
set_option maxRecDepth 20000 in
theorem readBody_short1 (h : HeadZ) (a : Option Addr) (n cap : Nat) (zs : List Int) (p : Nat → Addr) (w : World) (hn : n = zs.length) (hE : EnvAt w p) (hS : Slice w a cap zs) (hk : h.kind = 1) (h4 : zs.length < 4) :
    Calls Tryd.prog 71 #[.agg (headA h), .slice a n cap] w (BodyBad w h p 2) := by
  have e1 : (h.kind == 1) = true := by simp [hk]
  have e2 : (h.kind == 2) = false := by simp [hk]
  have h4' : (n : Int) < 4 := by omega
  clear hk hn
  have HX : Hid (HBox (w.alloc (.cells (headA h) 23)) w.heap.size h) := hbox_new w h
  have HB0 : Below (w.heap.size + 1) (w.alloc (.cells (headA h) 23)) (((w.alloc (.cells (headA h) 23)).alloc (.cells #[.int .i64 0, .int .i64 0, .int .i64 0, .int .i64 0, .int .i64 0, .int .i64 0, .int .i64 0, .int .i64 0, .slice none 0 0, .int .i64 0, .slice none 0 0, .slice none 0 0] 28)).alloc (.cells #[.int .i64 h.age, .int .i64 h.kind, .int .i64 h.id, .int .i64 h.adv, .int .i64 h.seq, .int .i64 h.sum, .int .i64 h.len, .int .i64 0, .slice none 0 0, .int .i64 0, .slice none 0 0, .slice none 0 0] 28)) := ((Below.refl _ _).alloc (by simp) _).alloc (by simp) _
  have HB : Hid (Below w.heap.size w (((w.alloc (.cells (headA h) 23)).alloc (.cells #[.int .i64 0, .int .i64 0, .int .i64 0, .int .i64 0, .int .i64 0, .int .i64 0, .int .i64 0, .int .i64 0, .slice none 0 0, .int .i64 0, .slice none 0 0, .slice none 0 0] 28)).alloc (.cells #[.int .i64 h.age, .int .i64 h.kind, .int .i64 h.id, .int .i64 h.adv, .int .i64 h.seq, .int .i64 h.sum, .int .i64 h.len, .int .i64 0, .slice none 0 0, .int .i64 0, .slice none 0 0, .slice none 0 0] 28))) := ((below_new' _ _).alloc (by simp) _).alloc (by simp; omega) _
  have HR : Hid (Var (((w.alloc (.cells (headA h) 23)).alloc (.cells #[.int .i64 0, .int .i64 0, .int .i64 0, .int .i64 0, .int .i64 0, .int .i64 0, .int .i64 0, .int .i64 0, .slice none 0 0, .int .i64 0, .slice none 0 0, .slice none 0 0] 28)).alloc (.cells #[.int .i64 h.age, .int .i64 h.kind, .int .i64 h.id, .int .i64 h.adv, .int .i64 h.seq, .int .i64 h.sum, .int .i64 h.len, .int .i64 0, .slice none 0 0, .int .i64 0, .slice none 0 0, .slice none 0 0] 28)) (w.heap.size + 1) [.int .i64 0, .int .i64 0, .int .i64 0, .int .i64 0, .int .i64 0, .int .i64 0, .int .i64 0, .int .i64 0, .slice none 0 0, .int .i64 0, .slice none 0 0, .slice none 0 0]) := by
    have h1 := (var_new (w.alloc (.cells (headA h) 23)) [.int .i64 0, .int .i64 0, .int .i64 0, .int .i64 0, .int .i64 0, .int .i64 0, .int .i64 0, .int .i64 0, .slice none 0 0, .int .i64 0, .slice none 0 0, .slice none 0 0] 28).alloc (.cells #[.int .i64 h.age, .int .i64 h.kind, .int .i64 h.id, .int .i64 h.adv, .int .i64 h.seq, .int .i64 h.sum, .int .i64 h.len, .int .i64 0, .slice none 0 0, .int .i64 0, .slice none 0 0, .slice none 0 0] 28)
    rw [size_new] at h1; exact h1
  have HL : Hid (Var (((w.alloc (.cells (headA h) 23)).alloc (.cells #[.int .i64 0, .int .i64 0, .int .i64 0, .int .i64 0, .int .i64 0, .int .i64 0, .int .i64 0, .int .i64 0, .slice none 0 0, .int .i64 0, .slice none 0 0, .slice none 0 0] 28)).alloc (.cells #[.int .i64 h.age, .int .i64 h.kind, .int .i64 h.id, .int .i64 h.adv, .int .i64 h.seq, .int .i64 h.sum, .int .i64 h.len, .int .i64 0, .slice none 0 0, .int .i64 0, .slice none 0 0, .slice none 0 0] 28)) (w.heap.size + 2) [.int .i64 h.age, .int .i64 h.kind, .int .i64 h.id, .int .i64 h.adv, .int .i64 h.seq, .int .i64 h.sum, .int .i64 h.len, .int .i64 0, .slice none 0 0, .int .i64 0, .slice none 0 0, .slice none 0 0]) := by
    have h1 := var_new ((w.alloc (.cells (headA h) 23)).alloc (.cells #[.int .i64 0, .int .i64 0, .int .i64 0, .int .i64 0, .int .i64 0, .int .i64 0, .int .i64 0, .int .i64 0, .slice none 0 0, .int .i64 0, .slice none 0 0, .slice none 0 0] 28)) [.int .i64 h.age, .int .i64 h.kind, .int .i64 h.id, .int .i64 h.adv, .int .i64 h.seq, .int .i64 h.sum, .int .i64 h.len, .int .i64 0, .slice none 0 0, .int .i64 0, .slice none 0 0, .slice none 0 0] 28
    rw [size_new, size_new] at h1; exact h1
  replace HX : Hid (HBox (((w.alloc (.cells (headA h) 23)).alloc (.cells #[.int .i64 0, .int .i64 0, .int .i64 0, .int .i64 0, .int .i64 0, .int .i64 0, .int .i64 0, .int .i64 0, .slice none 0 0, .int .i64 0, .slice none 0 0, .slice none 0 0] 28)).alloc (.cells #[.int .i64 h.age, .int .i64 h.kind, .int .i64 h.id, .int .i64 h.adv, .int .i64 h.seq, .int .i64 h.sum, .int .i64 h.len, .int .i64 0, .slice none 0 0, .int .i64 0, .slice none 0 0, .slice none 0 0] 28)) w.heap.size h) := HX.out.below HB0 (by omega)
  have HE : Hid (EnvAt w p) := hE
  have HS : Hid (Slice w a cap zs) := hS
  clear HB0 hE hS
  go_enter Tryd.func71, Tryd.ntmps71
  go_upto_region 2 with fail
  generalize (((w.alloc (.cells (headA h) 23)).alloc (.cells #[.int .i64 0, .int .i64 0, .int .i64 0, .int .i64 0, .int .i64 0, .int .i64 0, .int .i64 0, .int .i64 0, .slice none 0 0, .int .i64 0, .slice none 0 0, .slice none 0 0] 28)).alloc (.cells #[.int .i64 h.age, .int .i64 h.kind, .int .i64 h.id, .int .i64 h.adv, .int .i64 h.seq, .int .i64 h.sum, .int .i64 h.len, .int .i64 0, .slice none 0 0, .int .i64 0, .slice none 0 0, .slice none 0 0] 28)) = W at *
  obtain ⟨x0, x1, x2, x3, x4, x5, x6⟩ := HX.out
  clear x0 x2 x3 x4 x5 x6
  go_upto_region 6 with fail
  have KS : Hid (∀ X, Var X (w.heap.size + 2) [.int .i64 h.age, .int .i64 h.kind, .int .i64 h.id, .int .i64 h.adv, .int .i64 h.seq, .int .i64 h.sum, .int .i64 h.len, .int .i64 0, .slice none 0 0, .int .i64 0, .slice none 0 0, .slice none 0 0] → Below w.heap.size w X → X.cell? ⟨w.heap.size + 2, 0, none⟩ = some (.int .i64 h.age) ∧ X.cell? ⟨w.heap.size + 2, 1, none⟩ = some (.int .i64 h.kind) ∧ X.cell? ⟨w.heap.size + 2, 2, none⟩ = some (.int .i64 h.id) ∧ X.cell? ⟨w.heap.size + 2, 3, none⟩ = some (.int .i64 h.adv) ∧ X.cell? ⟨w.heap.size + 2, 4, none⟩ = some (.int .i64 h.seq) ∧ X.cell? ⟨w.heap.size + 2, 5, none⟩ = some (.int .i64 h.sum) ∧ X.cell? ⟨w.heap.size + 2, 6, none⟩ = some (.int .i64 h.len) ∧ X.cell? ⟨w.heap.size + 2, 7, none⟩ = some (.int .i64 0) ∧ X.cell? ⟨w.heap.size + 2, 8, none⟩ = some (.slice none 0 0) ∧ X.cell? ⟨w.heap.size + 2, 9, none⟩ = some (.int .i64 0) ∧ X.cell? ⟨w.heap.size + 2, 10, none⟩ = some (.slice none 0 0) ∧ X.cell? ⟨w.heap.size + 2, 11, none⟩ = some (.slice none 0 0) ∧ X.cell? ⟨2, 0, none⟩ = some (.iface 125 (.pointer (some (p 2)))) ∧ Hid (Var X (w.heap.size + 2) [.int .i64 h.age, .int .i64 h.kind, .int .i64 h.id, .int .i64 h.adv, .int .i64 h.seq, .int .i64 h.sum, .int .i64 h.len, .int .i64 0, .slice none 0 0, .int .i64 0, .slice none 0 0, .slice none 0 0] ∧ Below w.heap.size w X)) := fun X hv hb => ⟨hv.cell 0 rfl, hv.cell 1 rfl, hv.cell 2 rfl, hv.cell 3 rfl, hv.cell 4 rfl, hv.cell 5 rfl, hv.cell 6 rfl, hv.cell 7 rfl, hv.cell 8 rfl, hv.cell 9 rfl, hv.cell 10 rfl, hv.cell 11 rfl, (HE.out.below hb (Nat.le_refl _)).var 2 (by decide), hv, hb⟩
  have hne : w.heap.size + 1 ≠ w.heap.size + 2 := by omega
  have K1 : Hid (Var ((((((((((((W.setCell ⟨w.heap.size + 1, 0, none⟩ (.int .i64 h.age)).setCell ⟨w.heap.size + 1, 1, none⟩ (.int .i64 h.kind)).setCell ⟨w.heap.size + 1, 2, none⟩ (.int .i64 h.id)).setCell ⟨w.heap.size + 1, 3, none⟩ (.int .i64 h.adv)).setCell ⟨w.heap.size + 1, 4, none⟩ (.int .i64 h.seq)).setCell ⟨w.heap.size + 1, 5, none⟩ (.int .i64 h.sum)).setCell ⟨w.heap.size + 1, 6, none⟩ (.int .i64 h.len)).setCell ⟨w.heap.size + 1, 7, none⟩ (.int .i64 0)).setCell ⟨w.heap.size + 1, 8, none⟩ (.slice none 0 0)).setCell ⟨w.heap.size + 1, 9, none⟩ (.int .i64 0)).setCell ⟨w.heap.size + 1, 10, none⟩ (.slice none 0 0)).setCell ⟨w.heap.size + 1, 11, none⟩ (.slice none 0 0)) (w.heap.size + 2) [.int .i64 h.age, .int .i64 h.kind, .int .i64 h.id, .int .i64 h.adv, .int .i64 h.seq, .int .i64 h.sum, .int .i64 h.len, .int .i64 0, .slice none 0 0, .int .i64 0, .slice none 0 0, .slice none 0 0]) := HL.out.put12' hne (.int .i64 h.age) (.int .i64 h.kind) (.int .i64 h.id) (.int .i64 h.adv) (.int .i64 h.seq) (.int .i64 h.sum) (.int .i64 h.len) (.int .i64 0) (.slice none 0 0) (.int .i64 0) (.slice none 0 0) (.slice none 0 0)
  have K2 : Hid (Below w.heap.size w ((((((((((((W.setCell ⟨w.heap.size + 1, 0, none⟩ (.int .i64 h.age)).setCell ⟨w.heap.size + 1, 1, none⟩ (.int .i64 h.kind)).setCell ⟨w.heap.size + 1, 2, none⟩ (.int .i64 h.id)).setCell ⟨w.heap.size + 1, 3, none⟩ (.int .i64 h.adv)).setCell ⟨w.heap.size + 1, 4, none⟩ (.int .i64 h.seq)).setCell ⟨w.heap.size + 1, 5, none⟩ (.int .i64 h.sum)).setCell ⟨w.heap.size + 1, 6, none⟩ (.int .i64 h.len)).setCell ⟨w.heap.size + 1, 7, none⟩ (.int .i64 0)).setCell ⟨w.heap.size + 1, 8, none⟩ (.slice none 0 0)).setCell ⟨w.heap.size + 1, 9, none⟩ (.int .i64 0)).setCell ⟨w.heap.size + 1, 10, none⟩ (.slice none 0 0)).setCell ⟨w.heap.size + 1, 11, none⟩ (.slice none 0 0))) := below_put12 HB.out (by omega) (.int .i64 h.age) (.int .i64 h.kind) (.int .i64 h.id) (.int .i64 h.adv) (.int .i64 h.seq) (.int .i64 h.sum) (.int .i64 h.len) (.int .i64 0) (.slice none 0 0) (.int .i64 0) (.slice none 0 0) (.slice none 0 0)
  have K3 : Hid (Var ((((((((((((W.setCell ⟨w.heap.size + 1, 0, none⟩ (.int .i64 h.age)).setCell ⟨w.heap.size + 1, 1, none⟩ (.int .i64 h.kind)).setCell ⟨w.heap.size + 1, 2, none⟩ (.int .i64 h.id)).setCell ⟨w.heap.size + 1, 3, none⟩ (.int .i64 h.adv)).setCell ⟨w.heap.size + 1, 4, none⟩ (.int .i64 h.seq)).setCell ⟨w.heap.size + 1, 5, none⟩ (.int .i64 h.sum)).setCell ⟨w.heap.size + 1, 6, none⟩ (.int .i64 h.len)).setCell ⟨w.heap.size + 1, 7, none⟩ (.int .i64 0)).setCell ⟨w.heap.size + 1, 8, none⟩ (.slice none 0 0)).setCell ⟨w.heap.size + 1, 9, none⟩ (.int .i64 0)).setCell ⟨w.heap.size + 1, 10, none⟩ (.slice none 0 0)).setCell ⟨w.heap.size + 1, 11, none⟩ (.slice none 0 0)) (w.heap.size + 1) [.int .i64 h.age, .int .i64 h.kind, .int .i64 h.id, .int .i64 h.adv, .int .i64 h.seq, .int .i64 h.sum, .int .i64 h.len, .int .i64 0, .slice none 0 0, .int .i64 0, .slice none 0 0, .slice none 0 0]) := HR.out.put12 (.int .i64 h.age) (.int .i64 h.kind) (.int .i64 h.id) (.int .i64 h.adv) (.int .i64 h.seq) (.int .i64 h.sum) (.int .i64 h.len) (.int .i64 0) (.slice none 0 0) (.int .i64 0) (.slice none 0 0) (.slice none 0 0)
  have K4 : Hid (Below w.heap.size w W.drew) := HB.out.drew
  have K5 : Hid (Below w.heap.size w ((((((((((((W.setCell ⟨w.heap.size + 1, 0, none⟩ (.int .i64 h.age)).setCell ⟨w.heap.size + 1, 1, none⟩ (.int .i64 h.kind)).setCell ⟨w.heap.size + 1, 2, none⟩ (.int .i64 h.id)).setCell ⟨w.heap.size + 1, 3, none⟩ (.int .i64 h.adv)).setCell ⟨w.heap.size + 1, 4, none⟩ (.int .i64 h.seq)).setCell ⟨w.heap.size + 1, 5, none⟩ (.int .i64 h.sum)).setCell ⟨w.heap.size + 1, 6, none⟩ (.int .i64 h.len)).setCell ⟨w.heap.size + 1, 7, none⟩ (.int .i64 0)).setCell ⟨w.heap.size + 1, 8, none⟩ (.slice none 0 0)).setCell ⟨w.heap.size + 1, 9, none⟩ (.int .i64 0)).setCell ⟨w.heap.size + 1, 10, none⟩ (.slice none 0 0)).setCell ⟨w.heap.size + 1, 11, none⟩ (.slice none 0 0)).drew) := K2.out.drew
  have r0 := HR.out.cell 0 rfl
  have q0 := HR.out.frozen 0
  have r1 := HR.out.cell 1 rfl
  have q1 := HR.out.frozen 1
  have r2 := HR.out.cell 2 rfl
  have q2 := HR.out.frozen 2
  have r3 := HR.out.cell 3 rfl
  have q3 := HR.out.frozen 3
  have r4 := HR.out.cell 4 rfl
  have q4 := HR.out.frozen 4
  have r5 := HR.out.cell 5 rfl
  have q5 := HR.out.frozen 5
  have r6 := HR.out.cell 6 rfl
  have q6 := HR.out.frozen 6
  have r7 := HR.out.cell 7 rfl
  have q7 := HR.out.frozen 7
  have r8 := HR.out.cell 8 rfl
  have q8 := HR.out.frozen 8
  have r9 := HR.out.cell 9 rfl
  have q9 := HR.out.frozen 9
  have r10 := HR.out.cell 10 rfl
  have q10 := HR.out.frozen 10
  have r11 := HR.out.cell 11 rfl
  have q11 := HR.out.frozen 11
  clear hne
  go_region_held3 (fun X => X.cell? ⟨w.heap.size + 2, 0, none⟩ = some (.int .i64 h.age) ∧ X.cell? ⟨w.heap.size + 2, 1, none⟩ = some (.int .i64 h.kind) ∧ X.cell? ⟨w.heap.size + 2, 2, none⟩ = some (.int .i64 h.id) ∧ X.cell? ⟨w.heap.size + 2, 3, none⟩ = some (.int .i64 h.adv) ∧ X.cell? ⟨w.heap.size + 2, 4, none⟩ = some (.int .i64 h.seq) ∧ X.cell? ⟨w.heap.size + 2, 5, none⟩ = some (.int .i64 h.sum) ∧ X.cell? ⟨w.heap.size + 2, 6, none⟩ = some (.int .i64 h.len) ∧ X.cell? ⟨w.heap.size + 2, 7, none⟩ = some (.int .i64 0) ∧ X.cell? ⟨w.heap.size + 2, 8, none⟩ = some (.slice none 0 0) ∧ X.cell? ⟨w.heap.size + 2, 9, none⟩ = some (.int .i64 0) ∧ X.cell? ⟨w.heap.size + 2, 10, none⟩ = some (.slice none 0 0) ∧ X.cell? ⟨w.heap.size + 2, 11, none⟩ = some (.slice none 0 0) ∧ X.cell? ⟨2, 0, none⟩ = some (.iface 125 (.pointer (some (p 2)))) ∧ Hid (Var X (w.heap.size + 2) [.int .i64 h.age, .int .i64 h.kind, .int .i64 h.id, .int .i64 h.adv, .int .i64 h.seq, .int .i64 h.sum, .int .i64 h.len, .int .i64 0, .slice none 0 0, .int .i64 0, .slice none 0 0, .slice none 0 0] ∧ Below w.heap.size w X)) (with_reducible first | exact KS.out _ HL.out HB.out | exact KS.out _ HL.out.drew K4.out | exact KS.out _ K1.out K2.out | exact KS.out _ K1.out.drew K5.out | fail)
    (first | (go_at_call 56; refine (wrap_any _ _ _ _).mono ?_; rintro e w' ⟨rfl, rfl⟩) | fail)
  rename_i hH
  clear hH KS r0 r1 r2 r3 r4 r5 r6 r7 r8 r9 r10 r11 q0 q1 q2 q3 q4 q5 q6 q7 q8 q9 q10 q11
  replace K3 : Hid (Var ((((((((((((W.setCell ⟨w.heap.size + 1, 0, none⟩ (.int .i64 h.age)).setCell ⟨w.heap.size + 1, 1, none⟩ (.int .i64 h.kind)).setCell ⟨w.heap.size + 1, 2, none⟩ (.int .i64 h.id)).setCell ⟨w.heap.size + 1, 3, none⟩ (.int .i64 h.adv)).setCell ⟨w.heap.size + 1, 4, none⟩ (.int .i64 h.seq)).setCell ⟨w.heap.size + 1, 5, none⟩ (.int .i64 h.sum)).setCell ⟨w.heap.size + 1, 6, none⟩ (.int .i64 h.len)).setCell ⟨w.heap.size + 1, 7, none⟩ (.int .i64 0)).setCell ⟨w.heap.size + 1, 8, none⟩ (.slice none 0 0)).setCell ⟨w.heap.size + 1, 9, none⟩ (.int .i64 0)).setCell ⟨w.heap.size + 1, 10, none⟩ (.slice none 0 0)).setCell ⟨w.heap.size + 1, 11, none⟩ (.slice none 0 0)).drew (w.heap.size + 1) [.int .i64 h.age, .int .i64 h.kind, .int .i64 h.id, .int .i64 h.adv, .int .i64 h.seq, .int .i64 h.sum, .int .i64 h.len, .int .i64 0, .slice none 0 0, .int .i64 0, .slice none 0 0, .slice none 0 0]) := K3.out.drew
  clear K1 K2 K4
  generalize ((((((((((((W.setCell ⟨w.heap.size + 1, 0, none⟩ (.int .i64 h.age)).setCell ⟨w.heap.size + 1, 1, none⟩ (.int .i64 h.kind)).setCell ⟨w.heap.size + 1, 2, none⟩ (.int .i64 h.id)).setCell ⟨w.heap.size + 1, 3, none⟩ (.int .i64 h.adv)).setCell ⟨w.heap.size + 1, 4, none⟩ (.int .i64 h.seq)).setCell ⟨w.heap.size + 1, 5, none⟩ (.int .i64 h.sum)).setCell ⟨w.heap.size + 1, 6, none⟩ (.int .i64 h.len)).setCell ⟨w.heap.size + 1, 7, none⟩ (.int .i64 0)).setCell ⟨w.heap.size + 1, 8, none⟩ (.slice none 0 0)).setCell ⟨w.heap.size + 1, 9, none⟩ (.int .i64 0)).setCell ⟨w.heap.size + 1, 10, none⟩ (.slice none 0 0)).setCell ⟨w.heap.size + 1, 11, none⟩ (.slice none 0 0)).drew = Z at *
  have c0 := K3.out.cell 0 rfl
  have c1 := K3.out.cell 1 rfl
  have c2 := K3.out.cell 2 rfl
  have c3 := K3.out.cell 3 rfl
  have c4 := K3.out.cell 4 rfl
  have c5 := K3.out.cell 5 rfl
  have c6 := K3.out.cell 6 rfl
  have c7 := K3.out.cell 7 rfl
  have c8 := K3.out.cell 8 rfl
  have c9 := K3.out.cell 9 rfl
  have c10 := K3.out.cell 10 rfl
  have c11 := K3.out.cell 11 rfl
  go_wp2
  refine bodyPost_ret (by simp [results, Tryd.results71, go_sem, c0, c1, c2, c3, c4, c5, c6, c7, c8, c9, c10, c11]; try rfl) rfl ?_
  exact ⟨_, rfl, K5.out⟩
set_option maxHeartbeats 3200000 in
set_option maxRecDepth 20000 in
theorem readBody_short2 (h : HeadZ) (a : Option Addr) (n cap : Nat) (zs : List Int) (p : Nat → Addr) (w : World) (hn : n = zs.length) (hE : EnvAt w p) (hS : Slice w a cap zs) (hk : h.kind = 2) (h4 : zs.length < 4) :
    Calls Tryd.prog 71 #[.agg (headA h), .slice a n cap] w (BodyBad w h p 2) := by
  have e1 : (h.kind == 1) = false := by simp [hk]
  have e2 : (h.kind == 2) = true := by simp [hk]
  have h4' : (n : Int) < 4 := by omega
  clear hk hn
  have HX : Hid (HBox (w.alloc (.cells (headA h) 23)) w.heap.size h) := hbox_new w h
  have HB0 : Below (w.heap.size + 1) (w.alloc (.cells (headA h) 23)) (((w.alloc (.cells (headA h) 23)).alloc (.cells #[.int .i64 0, .int .i64 0, .int .i64 0, .int .i64 0, .int .i64 0, .int .i64 0, .int .i64 0, .int .i64 0, .slice none 0 0, .int .i64 0, .slice none 0 0, .slice none 0 0] 28)).alloc (.cells #[.int .i64 h.age, .int .i64 h.kind, .int .i64 h.id, .int .i64 h.adv, .int .i64 h.seq, .int .i64 h.sum, .int .i64 h.len, .int .i64 0, .slice none 0 0, .int .i64 0, .slice none 0 0, .slice none 0 0] 28)) := ((Below.refl _ _).alloc (by simp) _).alloc (by simp) _
  have HB : Hid (Below w.heap.size w (((w.alloc (.cells (headA h) 23)).alloc (.cells #[.int .i64 0, .int .i64 0, .int .i64 0, .int .i64 0, .int .i64 0, .int .i64 0, .int .i64 0, .int .i64 0, .slice none 0 0, .int .i64 0, .slice none 0 0, .slice none 0 0] 28)).alloc (.cells #[.int .i64 h.age, .int .i64 h.kind, .int .i64 h.id, .int .i64 h.adv, .int .i64 h.seq, .int .i64 h.sum, .int .i64 h.len, .int .i64 0, .slice none 0 0, .int .i64 0, .slice none 0 0, .slice none 0 0] 28))) := ((below_new' _ _).alloc (by simp) _).alloc (by simp; omega) _
  have HR : Hid (Var (((w.alloc (.cells (headA h) 23)).alloc (.cells #[.int .i64 0, .int .i64 0, .int .i64 0, .int .i64 0, .int .i64 0, .int .i64 0, .int .i64 0, .int .i64 0, .slice none 0 0, .int .i64 0, .slice none 0 0, .slice none 0 0] 28)).alloc (.cells #[.int .i64 h.age, .int .i64 h.kind, .int .i64 h.id, .int .i64 h.adv, .int .i64 h.seq, .int .i64 h.sum, .int .i64 h.len, .int .i64 0, .slice none 0 0, .int .i64 0, .slice none 0 0, .slice none 0 0] 28)) (w.heap.size + 1) [.int .i64 0, .int .i64 0, .int .i64 0, .int .i64 0, .int .i64 0, .int .i64 0, .int .i64 0, .int .i64 0, .slice none 0 0, .int .i64 0, .slice none 0 0, .slice none 0 0]) := by
    have h1 := (var_new (w.alloc (.cells (headA h) 23)) [.int .i64 0, .int .i64 0, .int .i64 0, .int .i64 0, .int .i64 0, .int .i64 0, .int .i64 0, .int .i64 0, .slice none 0 0, .int .i64 0, .slice none 0 0, .slice none 0 0] 28).alloc (.cells #[.int .i64 h.age, .int .i64 h.kind, .int .i64 h.id, .int .i64 h.adv, .int .i64 h.seq, .int .i64 h.sum, .int .i64 h.len, .int .i64 0, .slice none 0 0, .int .i64 0, .slice none 0 0, .slice none 0 0] 28)
    rw [size_new] at h1; exact h1
  have HL : Hid (Var (((w.alloc (.cells (headA h) 23)).alloc (.cells #[.int .i64 0, .int .i64 0, .int .i64 0, .int .i64 0, .int .i64 0, .int .i64 0, .int .i64 0, .int .i64 0, .slice none 0 0, .int .i64 0, .slice none 0 0, .slice none 0 0] 28)).alloc (.cells #[.int .i64 h.age, .int .i64 h.kind, .int .i64 h.id, .int .i64 h.adv, .int .i64 h.seq, .int .i64 h.sum, .int .i64 h.len, .int .i64 0, .slice none 0 0, .int .i64 0, .slice none 0 0, .slice none 0 0] 28)) (w.heap.size + 2) [.int .i64 h.age, .int .i64 h.kind, .int .i64 h.id, .int .i64 h.adv, .int .i64 h.seq, .int .i64 h.sum, .int .i64 h.len, .int .i64 0, .slice none 0 0, .int .i64 0, .slice none 0 0, .slice none 0 0]) := by
    have h1 := var_new ((w.alloc (.cells (headA h) 23)).alloc (.cells #[.int .i64 0, .int .i64 0, .int .i64 0, .int .i64 0, .int .i64 0, .int .i64 0, .int .i64 0, .int .i64 0, .slice none 0 0, .int .i64 0, .slice none 0 0, .slice none 0 0] 28)) [.int .i64 h.age, .int .i64 h.kind, .int .i64 h.id, .int .i64 h.adv, .int .i64 h.seq, .int .i64 h.sum, .int .i64 h.len, .int .i64 0, .slice none 0 0, .int .i64 0, .slice none 0 0, .slice none 0 0] 28
    rw [size_new, size_new] at h1; exact h1
  replace HX : Hid (HBox (((w.alloc (.cells (headA h) 23)).alloc (.cells #[.int .i64 0, .int .i64 0, .int .i64 0, .int .i64 0, .int .i64 0, .int .i64 0, .int .i64 0, .int .i64 0, .slice none 0 0, .int .i64 0, .slice none 0 0, .slice none 0 0] 28)).alloc (.cells #[.int .i64 h.age, .int .i64 h.kind, .int .i64 h.id, .int .i64 h.adv, .int .i64 h.seq, .int .i64 h.sum, .int .i64 h.len, .int .i64 0, .slice none 0 0, .int .i64 0, .slice none 0 0, .slice none 0 0] 28)) w.heap.size h) := HX.out.below HB0 (by omega)
  have HE : Hid (EnvAt w p) := hE
  have HS : Hid (Slice w a cap zs) := hS
  clear HB0 hE hS
  go_enter Tryd.func71, Tryd.ntmps71
  go_upto_region 2 with fail
  generalize (((w.alloc (.cells (headA h) 23)).alloc (.cells #[.int .i64 0, .int .i64 0, .int .i64 0, .int .i64 0, .int .i64 0, .int .i64 0, .int .i64 0, .int .i64 0, .slice none 0 0, .int .i64 0, .slice none 0 0, .slice none 0 0] 28)).alloc (.cells #[.int .i64 h.age, .int .i64 h.kind, .int .i64 h.id, .int .i64 h.adv, .int .i64 h.seq, .int .i64 h.sum, .int .i64 h.len, .int .i64 0, .slice none 0 0, .int .i64 0, .slice none 0 0, .slice none 0 0] 28)) = W at *
  obtain ⟨x0, x1, x2, x3, x4, x5, x6⟩ := HX.out
  clear x0 x2 x3 x4 x5 x6
  go_upto_region 11 with fail
  have KS : Hid (∀ X, Var X (w.heap.size + 2) [.int .i64 h.age, .int .i64 h.kind, .int .i64 h.id, .int .i64 h.adv, .int .i64 h.seq, .int .i64 h.sum, .int .i64 h.len, .int .i64 0, .slice none 0 0, .int .i64 0, .slice none 0 0, .slice none 0 0] → Below w.heap.size w X → X.cell? ⟨w.heap.size + 2, 0, none⟩ = some (.int .i64 h.age) ∧ X.cell? ⟨w.heap.size + 2, 1, none⟩ = some (.int .i64 h.kind) ∧ X.cell? ⟨w.heap.size + 2, 2, none⟩ = some (.int .i64 h.id) ∧ X.cell? ⟨w.heap.size + 2, 3, none⟩ = some (.int .i64 h.adv) ∧ X.cell? ⟨w.heap.size + 2, 4, none⟩ = some (.int .i64 h.seq) ∧ X.cell? ⟨w.heap.size + 2, 5, none⟩ = some (.int .i64 h.sum) ∧ X.cell? ⟨w.heap.size + 2, 6, none⟩ = some (.int .i64 h.len) ∧ X.cell? ⟨w.heap.size + 2, 7, none⟩ = some (.int .i64 0) ∧ X.cell? ⟨w.heap.size + 2, 8, none⟩ = some (.slice none 0 0) ∧ X.cell? ⟨w.heap.size + 2, 9, none⟩ = some (.int .i64 0) ∧ X.cell? ⟨w.heap.size + 2, 10, none⟩ = some (.slice none 0 0) ∧ X.cell? ⟨w.heap.size + 2, 11, none⟩ = some (.slice none 0 0) ∧ X.cell? ⟨2, 0, none⟩ = some (.iface 125 (.pointer (some (p 2)))) ∧ Hid (Var X (w.heap.size + 2) [.int .i64 h.age, .int .i64 h.kind, .int .i64 h.id, .int .i64 h.adv, .int .i64 h.seq, .int .i64 h.sum, .int .i64 h.len, .int .i64 0, .slice none 0 0, .int .i64 0, .slice none 0 0, .slice none 0 0] ∧ Below w.heap.size w X)) := fun X hv hb => ⟨hv.cell 0 rfl, hv.cell 1 rfl, hv.cell 2 rfl, hv.cell 3 rfl, hv.cell 4 rfl, hv.cell 5 rfl, hv.cell 6 rfl, hv.cell 7 rfl, hv.cell 8 rfl, hv.cell 9 rfl, hv.cell 10 rfl, hv.cell 11 rfl, (HE.out.below hb (Nat.le_refl _)).var 2 (by decide), hv, hb⟩
  have hne : w.heap.size + 1 ≠ w.heap.size + 2 := by omega
  have K1 : Hid (Var ((((((((((((W.setCell ⟨w.heap.size + 1, 0, none⟩ (.int .i64 h.age)).setCell ⟨w.heap.size + 1, 1, none⟩ (.int .i64 h.kind)).setCell ⟨w.heap.size + 1, 2, none⟩ (.int .i64 h.id)).setCell ⟨w.heap.size + 1, 3, none⟩ (.int .i64 h.adv)).setCell ⟨w.heap.size + 1, 4, none⟩ (.int .i64 h.seq)).setCell ⟨w.heap.size + 1, 5, none⟩ (.int .i64 h.sum)).setCell ⟨w.heap.size + 1, 6, none⟩ (.int .i64 h.len)).setCell ⟨w.heap.size + 1, 7, none⟩ (.int .i64 0)).setCell ⟨w.heap.size + 1, 8, none⟩ (.slice none 0 0)).setCell ⟨w.heap.size + 1, 9, none⟩ (.int .i64 0)).setCell ⟨w.heap.size + 1, 10, none⟩ (.slice none 0 0)).setCell ⟨w.heap.size + 1, 11, none⟩ (.slice none 0 0)) (w.heap.size + 2) [.int .i64 h.age, .int .i64 h.kind, .int .i64 h.id, .int .i64 h.adv, .int .i64 h.seq, .int .i64 h.sum, .int .i64 h.len, .int .i64 0, .slice none 0 0, .int .i64 0, .slice none 0 0, .slice none 0 0]) := HL.out.put12' hne (.int .i64 h.age) (.int .i64 h.kind) (.int .i64 h.id) (.int .i64 h.adv) (.int .i64 h.seq) (.int .i64 h.sum) (.int .i64 h.len) (.int .i64 0) (.slice none 0 0) (.int .i64 0) (.slice none 0 0) (.slice none 0 0)
  have K2 : Hid (Below w.heap.size w ((((((((((((W.setCell ⟨w.heap.size + 1, 0, none⟩ (.int .i64 h.age)).setCell ⟨w.heap.size + 1, 1, none⟩ (.int .i64 h.kind)).setCell ⟨w.heap.size + 1, 2, none⟩ (.int .i64 h.id)).setCell ⟨w.heap.size + 1, 3, none⟩ (.int .i64 h.adv)).setCell ⟨w.heap.size + 1, 4, none⟩ (.int .i64 h.seq)).setCell ⟨w.heap.size + 1, 5, none⟩ (.int .i64 h.sum)).setCell ⟨w.heap.size + 1, 6, none⟩ (.int .i64 h.len)).setCell ⟨w.heap.size + 1, 7, none⟩ (.int .i64 0)).setCell ⟨w.heap.size + 1, 8, none⟩ (.slice none 0 0)).setCell ⟨w.heap.size + 1, 9, none⟩ (.int .i64 0)).setCell ⟨w.heap.size + 1, 10, none⟩ (.slice none 0 0)).setCell ⟨w.heap.size + 1, 11, none⟩ (.slice none 0 0))) := below_put12 HB.out (by omega) (.int .i64 h.age) (.int .i64 h.kind) (.int .i64 h.id) (.int .i64 h.adv) (.int .i64 h.seq) (.int .i64 h.sum) (.int .i64 h.len) (.int .i64 0) (.slice none 0 0) (.int .i64 0) (.slice none 0 0) (.slice none 0 0)
  have K3 : Hid (Var ((((((((((((W.setCell ⟨w.heap.size + 1, 0, none⟩ (.int .i64 h.age)).setCell ⟨w.heap.size + 1, 1, none⟩ (.int .i64 h.kind)).setCell ⟨w.heap.size + 1, 2, none⟩ (.int .i64 h.id)).setCell ⟨w.heap.size + 1, 3, none⟩ (.int .i64 h.adv)).setCell ⟨w.heap.size + 1, 4, none⟩ (.int .i64 h.seq)).setCell ⟨w.heap.size + 1, 5, none⟩ (.int .i64 h.sum)).setCell ⟨w.heap.size + 1, 6, none⟩ (.int .i64 h.len)).setCell ⟨w.heap.size + 1, 7, none⟩ (.int .i64 0)).setCell ⟨w.heap.size + 1, 8, none⟩ (.slice none 0 0)).setCell ⟨w.heap.size + 1, 9, none⟩ (.int .i64 0)).setCell ⟨w.heap.size + 1, 10, none⟩ (.slice none 0 0)).setCell ⟨w.heap.size + 1, 11, none⟩ (.slice none 0 0)) (w.heap.size + 1) [.int .i64 h.age, .int .i64 h.kind, .int .i64 h.id, .int .i64 h.adv, .int .i64 h.seq, .int .i64 h.sum, .int .i64 h.len, .int .i64 0, .slice none 0 0, .int .i64 0, .slice none 0 0, .slice none 0 0]) := HR.out.put12 (.int .i64 h.age) (.int .i64 h.kind) (.int .i64 h.id) (.int .i64 h.adv) (.int .i64 h.seq) (.int .i64 h.sum) (.int .i64 h.len) (.int .i64 0) (.slice none 0 0) (.int .i64 0) (.slice none 0 0) (.slice none 0 0)
  have K4 : Hid (Below w.heap.size w W.drew) := HB.out.drew
  have K5 : Hid (Below w.heap.size w ((((((((((((W.setCell ⟨w.heap.size + 1, 0, none⟩ (.int .i64 h.age)).setCell ⟨w.heap.size + 1, 1, none⟩ (.int .i64 h.kind)).setCell ⟨w.heap.size + 1, 2, none⟩ (.int .i64 h.id)).setCell ⟨w.heap.size + 1, 3, none⟩ (.int .i64 h.adv)).setCell ⟨w.heap.size + 1, 4, none⟩ (.int .i64 h.seq)).setCell ⟨w.heap.size + 1, 5, none⟩ (.int .i64 h.sum)).setCell ⟨w.heap.size + 1, 6, none⟩ (.int .i64 h.len)).setCell ⟨w.heap.size + 1, 7, none⟩ (.int .i64 0)).setCell ⟨w.heap.size + 1, 8, none⟩ (.slice none 0 0)).setCell ⟨w.heap.size + 1, 9, none⟩ (.int .i64 0)).setCell ⟨w.heap.size + 1, 10, none⟩ (.slice none 0 0)).setCell ⟨w.heap.size + 1, 11, none⟩ (.slice none 0 0)).drew) := K2.out.drew
  have r0 := HR.out.cell 0 rfl
  have q0 := HR.out.frozen 0
  have r1 := HR.out.cell 1 rfl
  have q1 := HR.out.frozen 1
  have r2 := HR.out.cell 2 rfl
  have q2 := HR.out.frozen 2
  have r3 := HR.out.cell 3 rfl
  have q3 := HR.out.frozen 3
  have r4 := HR.out.cell 4 rfl
  have q4 := HR.out.frozen 4
  have r5 := HR.out.cell 5 rfl
  have q5 := HR.out.frozen 5
  have r6 := HR.out.cell 6 rfl
  have q6 := HR.out.frozen 6
  have r7 := HR.out.cell 7 rfl
  have q7 := HR.out.frozen 7
  have r8 := HR.out.cell 8 rfl
  have q8 := HR.out.frozen 8
  have r9 := HR.out.cell 9 rfl
  have q9 := HR.out.frozen 9
  have r10 := HR.out.cell 10 rfl
  have q10 := HR.out.frozen 10
  have r11 := HR.out.cell 11 rfl
  have q11 := HR.out.frozen 11
  clear hne
  go_region_held3 (fun X => X.cell? ⟨w.heap.size + 2, 0, none⟩ = some (.int .i64 h.age) ∧ X.cell? ⟨w.heap.size + 2, 1, none⟩ = some (.int .i64 h.kind) ∧ X.cell? ⟨w.heap.size + 2, 2, none⟩ = some (.int .i64 h.id) ∧ X.cell? ⟨w.heap.size + 2, 3, none⟩ = some (.int .i64 h.adv) ∧ X.cell? ⟨w.heap.size + 2, 4, none⟩ = some (.int .i64 h.seq) ∧ X.cell? ⟨w.heap.size + 2, 5, none⟩ = some (.int .i64 h.sum) ∧ X.cell? ⟨w.heap.size + 2, 6, none⟩ = some (.int .i64 h.len) ∧ X.cell? ⟨w.heap.size + 2, 7, none⟩ = some (.int .i64 0) ∧ X.cell? ⟨w.heap.size + 2, 8, none⟩ = some (.slice none 0 0) ∧ X.cell? ⟨w.heap.size + 2, 9, none⟩ = some (.int .i64 0) ∧ X.cell? ⟨w.heap.size + 2, 10, none⟩ = some (.slice none 0 0) ∧ X.cell? ⟨w.heap.size + 2, 11, none⟩ = some (.slice none 0 0) ∧ X.cell? ⟨2, 0, none⟩ = some (.iface 125 (.pointer (some (p 2)))) ∧ Hid (Var X (w.heap.size + 2) [.int .i64 h.age, .int .i64 h.kind, .int .i64 h.id, .int .i64 h.adv, .int .i64 h.seq, .int .i64 h.sum, .int .i64 h.len, .int .i64 0, .slice none 0 0, .int .i64 0, .slice none 0 0, .slice none 0 0] ∧ Below w.heap.size w X)) (with_reducible first | exact KS.out _ HL.out HB.out | exact KS.out _ HL.out.drew K4.out | exact KS.out _ K1.out K2.out | exact KS.out _ K1.out.drew K5.out | fail)
    (first | (go_at_call 56; refine (wrap_any _ _ _ _).mono ?_; rintro e w' ⟨rfl, rfl⟩) | fail)
  rename_i hH
  clear hH KS r0 r1 r2 r3 r4 r5 r6 r7 r8 r9 r10 r11 q0 q1 q2 q3 q4 q5 q6 q7 q8 q9 q10 q11
  replace K3 : Hid (Var ((((((((((((W.setCell ⟨w.heap.size + 1, 0, none⟩ (.int .i64 h.age)).setCell ⟨w.heap.size + 1, 1, none⟩ (.int .i64 h.kind)).setCell ⟨w.heap.size + 1, 2, none⟩ (.int .i64 h.id)).setCell ⟨w.heap.size + 1, 3, none⟩ (.int .i64 h.adv)).setCell ⟨w.heap.size + 1, 4, none⟩ (.int .i64 h.seq)).setCell ⟨w.heap.size + 1, 5, none⟩ (.int .i64 h.sum)).setCell ⟨w.heap.size + 1, 6, none⟩ (.int .i64 h.len)).setCell ⟨w.heap.size + 1, 7, none⟩ (.int .i64 0)).setCell ⟨w.heap.size + 1, 8, none⟩ (.slice none 0 0)).setCell ⟨w.heap.size + 1, 9, none⟩ (.int .i64 0)).setCell ⟨w.heap.size + 1, 10, none⟩ (.slice none 0 0)).setCell ⟨w.heap.size + 1, 11, none⟩ (.slice none 0 0)).drew (w.heap.size + 1) [.int .i64 h.age, .int .i64 h.kind, .int .i64 h.id, .int .i64 h.adv, .int .i64 h.seq, .int .i64 h.sum, .int .i64 h.len, .int .i64 0, .slice none 0 0, .int .i64 0, .slice none 0 0, .slice none 0 0]) := K3.out.drew
  clear K1 K2 K4
  generalize ((((((((((((W.setCell ⟨w.heap.size + 1, 0, none⟩ (.int .i64 h.age)).setCell ⟨w.heap.size + 1, 1, none⟩ (.int .i64 h.kind)).setCell ⟨w.heap.size + 1, 2, none⟩ (.int .i64 h.id)).setCell ⟨w.heap.size + 1, 3, none⟩ (.int .i64 h.adv)).setCell ⟨w.heap.size + 1, 4, none⟩ (.int .i64 h.seq)).setCell ⟨w.heap.size + 1, 5, none⟩ (.int .i64 h.sum)).setCell ⟨w.heap.size + 1, 6, none⟩ (.int .i64 h.len)).setCell ⟨w.heap.size + 1, 7, none⟩ (.int .i64 0)).setCell ⟨w.heap.size + 1, 8, none⟩ (.slice none 0 0)).setCell ⟨w.heap.size + 1, 9, none⟩ (.int .i64 0)).setCell ⟨w.heap.size + 1, 10, none⟩ (.slice none 0 0)).setCell ⟨w.heap.size + 1, 11, none⟩ (.slice none 0 0)).drew = Z at *
  have c0 := K3.out.cell 0 rfl
  have c1 := K3.out.cell 1 rfl
  have c2 := K3.out.cell 2 rfl
  have c3 := K3.out.cell 3 rfl
  have c4 := K3.out.cell 4 rfl
  have c5 := K3.out.cell 5 rfl
  have c6 := K3.out.cell 6 rfl
  have c7 := K3.out.cell 7 rfl
  have c8 := K3.out.cell 8 rfl
  have c9 := K3.out.cell 9 rfl
  have c10 := K3.out.cell 10 rfl
  have c11 := K3.out.cell 11 rfl
  go_wp2
  refine bodyPost_ret (by simp [results, Tryd.results71, go_sem, c0, c1, c2, c3, c4, c5, c6, c7, c8, c9, c10, c11]; try rfl) rfl ?_
  exact ⟨_, rfl, K5.out⟩
end Go.Proofs.YtoanjhccbmifmaaDoor
/- Bodies read from bytes: what they are. -/
namespace Go.Proofs.YtoanjhccbmifmaaDoor
open Go.RowKit
set_option linter.unusedVariables false

theorem slice_ad {w : World} {b off c m : Nat} {rs : List Int} (h : Slice w (some ⟨b, off, none⟩) c rs) (hm : m ≤ rs.length) : ∃ ad, (if c = m then some (⟨b, off, none⟩ : Addr) else some ⟨b, off + m, none⟩) = ad ∧ Slice w ad (c - m) (rs.drop m) := by
  refine ⟨_, rfl, slice_next h hm _ ?_⟩
  split
  · exact .inr ⟨by assumption, rfl⟩
  · exact .inl rfl
set_option maxHeartbeats 3200000 in
set_option maxRecDepth 20000 in
theorem readBody_1 (h : HeadZ) (a : Option Addr) (n cap : Nat) (zs : List Int) (p : Nat → Addr) (w : World) (hn : n = zs.length) (hE : EnvAt w p) (hS : Slice w a cap zs) (hk : h.kind = 1) (h4 : 4 ≤ zs.length) (hl : zs.length ≤ 1000000) :
    Calls Tryd.prog 71 #[.agg (headA h), .slice a n cap] w (BodyOk w (bodyOf h zs)) := by
  have e1 : (h.kind == 1) = true := by simp [hk]
  have h4' : ¬ (n : Int) < 4 := by omega
  have HBO : Hid (bodyOf h zs = ⟨h, zs.getD 0 0, readL 12 readLZ (zs.drop 4), 0, [], []⟩) := by show _ = _; unfold bodyOf; rw [if_pos hk]
  have hroom := hS.room
  have HN : Hid (n = zs.length) := hn
  have hn4 : 4 ≤ n := by omega
  have hnc : n ≤ cap := by omega
  clear hk hn
  have HX : Hid (HBox (w.alloc (.cells (headA h) 23)) w.heap.size h) := hbox_new w h
  have HB0 : Below (w.heap.size + 1) (w.alloc (.cells (headA h) 23)) (((w.alloc (.cells (headA h) 23)).alloc (.cells #[.int .i64 0, .int .i64 0, .int .i64 0, .int .i64 0, .int .i64 0, .int .i64 0, .int .i64 0, .int .i64 0, .slice none 0 0, .int .i64 0, .slice none 0 0, .slice none 0 0] 28)).alloc (.cells #[.int .i64 h.age, .int .i64 h.kind, .int .i64 h.id, .int .i64 h.adv, .int .i64 h.seq, .int .i64 h.sum, .int .i64 h.len, .int .i64 0, .slice none 0 0, .int .i64 0, .slice none 0 0, .slice none 0 0] 28)) := ((Below.refl _ _).alloc (by simp) _).alloc (by simp) _
  have HB : Hid (Below w.heap.size w (((w.alloc (.cells (headA h) 23)).alloc (.cells #[.int .i64 0, .int .i64 0, .int .i64 0, .int .i64 0, .int .i64 0, .int .i64 0, .int .i64 0, .int .i64 0, .slice none 0 0, .int .i64 0, .slice none 0 0, .slice none 0 0] 28)).alloc (.cells #[.int .i64 h.age, .int .i64 h.kind, .int .i64 h.id, .int .i64 h.adv, .int .i64 h.seq, .int .i64 h.sum, .int .i64 h.len, .int .i64 0, .slice none 0 0, .int .i64 0, .slice none 0 0, .slice none 0 0] 28))) := ((below_new' _ _).alloc (by simp) _).alloc (by simp; omega) _
  have HR : Hid (Var (((w.alloc (.cells (headA h) 23)).alloc (.cells #[.int .i64 0, .int .i64 0, .int .i64 0, .int .i64 0, .int .i64 0, .int .i64 0, .int .i64 0, .int .i64 0, .slice none 0 0, .int .i64 0, .slice none 0 0, .slice none 0 0] 28)).alloc (.cells #[.int .i64 h.age, .int .i64 h.kind, .int .i64 h.id, .int .i64 h.adv, .int .i64 h.seq, .int .i64 h.sum, .int .i64 h.len, .int .i64 0, .slice none 0 0, .int .i64 0, .slice none 0 0, .slice none 0 0] 28)) (w.heap.size + 1) [.int .i64 0, .int .i64 0, .int .i64 0, .int .i64 0, .int .i64 0, .int .i64 0, .int .i64 0, .int .i64 0, .slice none 0 0, .int .i64 0, .slice none 0 0, .slice none 0 0]) := by
    have h1 := (var_new (w.alloc (.cells (headA h) 23)) [.int .i64 0, .int .i64 0, .int .i64 0, .int .i64 0, .int .i64 0, .int .i64 0, .int .i64 0, .int .i64 0, .slice none 0 0, .int .i64 0, .slice none 0 0, .slice none 0 0] 28).alloc (.cells #[.int .i64 h.age, .int .i64 h.kind, .int .i64 h.id, .int .i64 h.adv, .int .i64 h.seq, .int .i64 h.sum, .int .i64 h.len, .int .i64 0, .slice none 0 0, .int .i64 0, .slice none 0 0, .slice none 0 0] 28)
    rw [size_new] at h1; exact h1
  have HL : Hid (Var (((w.alloc (.cells (headA h) 23)).alloc (.cells #[.int .i64 0, .int .i64 0, .int .i64 0, .int .i64 0, .int .i64 0, .int .i64 0, .int .i64 0, .int .i64 0, .slice none 0 0, .int .i64 0, .slice none 0 0, .slice none 0 0] 28)).alloc (.cells #[.int .i64 h.age, .int .i64 h.kind, .int .i64 h.id, .int .i64 h.adv, .int .i64 h.seq, .int .i64 h.sum, .int .i64 h.len, .int .i64 0, .slice none 0 0, .int .i64 0, .slice none 0 0, .slice none 0 0] 28)) (w.heap.size + 2) [.int .i64 h.age, .int .i64 h.kind, .int .i64 h.id, .int .i64 h.adv, .int .i64 h.seq, .int .i64 h.sum, .int .i64 h.len, .int .i64 0, .slice none 0 0, .int .i64 0, .slice none 0 0, .slice none 0 0]) := by
    have h1 := var_new ((w.alloc (.cells (headA h) 23)).alloc (.cells #[.int .i64 0, .int .i64 0, .int .i64 0, .int .i64 0, .int .i64 0, .int .i64 0, .int .i64 0, .int .i64 0, .slice none 0 0, .int .i64 0, .slice none 0 0, .slice none 0 0] 28)) [.int .i64 h.age, .int .i64 h.kind, .int .i64 h.id, .int .i64 h.adv, .int .i64 h.seq, .int .i64 h.sum, .int .i64 h.len, .int .i64 0, .slice none 0 0, .int .i64 0, .slice none 0 0, .slice none 0 0] 28
    rw [size_new, size_new] at h1; exact h1
  replace HX : Hid (HBox (((w.alloc (.cells (headA h) 23)).alloc (.cells #[.int .i64 0, .int .i64 0, .int .i64 0, .int .i64 0, .int .i64 0, .int .i64 0, .int .i64 0, .int .i64 0, .slice none 0 0, .int .i64 0, .slice none 0 0, .slice none 0 0] 28)).alloc (.cells #[.int .i64 h.age, .int .i64 h.kind, .int .i64 h.id, .int .i64 h.adv, .int .i64 h.seq, .int .i64 h.sum, .int .i64 h.len, .int .i64 0, .slice none 0 0, .int .i64 0, .slice none 0 0, .slice none 0 0] 28)) w.heap.size h) := HX.out.below HB0 (by omega)
  have HE : Hid (EnvAt w p) := hE
  have HS : Hid (Slice w a cap zs) := hS
  clear HB0 hE hS
  go_enter Tryd.func71, Tryd.ntmps71
  go_upto_region 2 with fail
  generalize (((w.alloc (.cells (headA h) 23)).alloc (.cells #[.int .i64 0, .int .i64 0, .int .i64 0, .int .i64 0, .int .i64 0, .int .i64 0, .int .i64 0, .int .i64 0, .slice none 0 0, .int .i64 0, .slice none 0 0, .slice none 0 0] 28)).alloc (.cells #[.int .i64 h.age, .int .i64 h.kind, .int .i64 h.id, .int .i64 h.adv, .int .i64 h.seq, .int .i64 h.sum, .int .i64 h.len, .int .i64 0, .slice none 0 0, .int .i64 0, .slice none 0 0, .slice none 0 0] 28)) = W at *
  obtain ⟨x0, x1, x2, x3, x4, x5, x6⟩ := HX.out
  clear x0 x2 x3 x4 x5 x6
  obtain ⟨b, off, rfl, hcell⟩ := slice_some HS.out (by omega)
  have hbl : b < w.heap.size := by
    rcases Nat.lt_or_ge b w.heap.size with h | h
    · exact h
    · have := hcell 0 (by omega); simp [World.cell?, Array.getElem?_eq_none h] at this
  have y0 : W.cell? ⟨b, off, none⟩ = some (.int .u8 (zs.getD 0 0)) := by rw [HB.out.cell (p := ⟨b, off, none⟩) hbl]; simpa using hcell 0 (by omega)
  obtain ⟨z0, hz0⟩ : ∃ z0, zs.getD 0 0 = z0 := ⟨_, rfl⟩
  have b0 := areBytes_getD HS.out.bd 0
  rw [hz0] at y0 b0
  rw [hz0] at HBO
  clear hz0
  have t0 : IntKind.i64.wrap z0 = z0 := by rw [IntKind.wrap_i64]; omega
  have s7 := HL.out.cell 7 rfl
  have f7 := HL.out.frozen 7
  replace HL : Hid (Var (W.setCell ⟨w.heap.size + 2, 7, none⟩ (.int .i64 z0)) (w.heap.size + 2) [.int .i64 h.age, .int .i64 h.kind, .int .i64 h.id, .int .i64 h.adv, .int .i64 h.seq, .int .i64 h.sum, .int .i64 h.len, .int .i64 z0, .slice none 0 0, .int .i64 0, .slice none 0 0, .slice none 0 0]) := HL.out.set 7 _
  replace HR : Hid (Var (W.setCell ⟨w.heap.size + 2, 7, none⟩ (.int .i64 z0)) (w.heap.size + 1) [.int .i64 0, .int .i64 0, .int .i64 0, .int .i64 0, .int .i64 0, .int .i64 0, .int .i64 0, .int .i64 0, .slice none 0 0, .int .i64 0, .slice none 0 0, .slice none 0 0]) := HR.out.other (by omega) 7 _
  replace HB : Hid (Below w.heap.size w (W.setCell ⟨w.heap.size + 2, 7, none⟩ (.int .i64 z0))) := HB.out.setCell (by show _ ≤ _; simp) _
  go_upto_region 8 with fail
  generalize W.setCell ⟨w.heap.size + 2, 7, none⟩ (.int .i64 z0) = W1 at *
  clear s7 f7 y0
  obtain ⟨ad, had, hsl⟩ := slice_ad (HS.out.below HB.out) (m := 4) (by omega)
  have hcall := readLinks_any ad (n - 4) (cap - 4) (zs.drop 4) W1 (by rw [HN.out]; simp) hsl (by simp; omega)
  have HLL : Hid ((readL 12 readLZ (zs.drop 4)).length ≤ 1000000) := by show _ ≤ _; rw [readL_length, List.length_drop]; have : (zs.length - 4) / 12 ≤ zs.length - 4 := Nat.div_le_self _ _; omega
  clear hsl
  generalize readL 12 readLZ (zs.drop 4) = L at *
  go_wp2_with fail
  refine hcall.mono ?_
  rintro e w2 ⟨la, lc, rfl, hli, hnil, hfar, hb⟩
  have HSZ : w.heap.size + 2 < W1.heap.size := HL.out.lt
  replace HL : Hid (Var w2 (w.heap.size + 2) [.int .i64 h.age, .int .i64 h.kind, .int .i64 h.id, .int .i64 h.adv, .int .i64 h.seq, .int .i64 h.sum, .int .i64 h.len, .int .i64 z0, .slice none 0 0, .int .i64 0, .slice none 0 0, .slice none 0 0]) := HL.out.below hb HL.out.lt
  replace HR : Hid (Var w2 (w.heap.size + 1) [.int .i64 0, .int .i64 0, .int .i64 0, .int .i64 0, .int .i64 0, .int .i64 0, .int .i64 0, .int .i64 0, .slice none 0 0, .int .i64 0, .slice none 0 0, .slice none 0 0]) := HR.out.below hb HR.out.lt
  replace HB : Hid (Below w.heap.size w w2) := below_more HB.out hb HB.out.size
  have HLI : Hid (Lies w2 _ _) := hli
  have HFAR : Hid (Far _ _) := hfar
  have HNIL : Hid (_ → _) := hnil
  clear hb hli hfar hnil hcall
  have s8 := HL.out.cell 8 rfl
  have f8 := HL.out.frozen 8
  replace HL : Hid (Var (w2.setCell ⟨w.heap.size + 2, 8, none⟩ (.slice la L.length lc)) (w.heap.size + 2) [.int .i64 h.age, .int .i64 h.kind, .int .i64 h.id, .int .i64 h.adv, .int .i64 h.seq, .int .i64 h.sum, .int .i64 h.len, .int .i64 z0, .slice la L.length lc, .int .i64 0, .slice none 0 0, .slice none 0 0]) := HL.out.set 8 _
  replace HR : Hid (Var (w2.setCell ⟨w.heap.size + 2, 8, none⟩ (.slice la L.length lc)) (w.heap.size + 1) [.int .i64 0, .int .i64 0, .int .i64 0, .int .i64 0, .int .i64 0, .int .i64 0, .int .i64 0, .int .i64 0, .slice none 0 0, .int .i64 0, .slice none 0 0, .slice none 0 0]) := HR.out.other (by omega) 8 _
  replace HB : Hid (Below w.heap.size w (w2.setCell ⟨w.heap.size + 2, 8, none⟩ (.slice la L.length lc))) := HB.out.setCell (by show _ ≤ _; simp) _
  replace HLI : Hid (Lies (w2.setCell ⟨w.heap.size + 2, 8, none⟩ (.slice la L.length lc)) _ _) := HLI.out.set HFAR.out (by show _ < _; simpa using HSZ) _
  go_upto_region 16 with fail
  generalize w2.setCell ⟨w.heap.size + 2, 8, none⟩ (.slice la L.length lc) = W9 at *
  clear s8 f8
  have K3 : Hid (Var ((((((((((((W9.setCell ⟨w.heap.size + 1, 0, none⟩ (.int .i64 h.age)).setCell ⟨w.heap.size + 1, 1, none⟩ (.int .i64 h.kind)).setCell ⟨w.heap.size + 1, 2, none⟩ (.int .i64 h.id)).setCell ⟨w.heap.size + 1, 3, none⟩ (.int .i64 h.adv)).setCell ⟨w.heap.size + 1, 4, none⟩ (.int .i64 h.seq)).setCell ⟨w.heap.size + 1, 5, none⟩ (.int .i64 h.sum)).setCell ⟨w.heap.size + 1, 6, none⟩ (.int .i64 h.len)).setCell ⟨w.heap.size + 1, 7, none⟩ (.int .i64 z0)).setCell ⟨w.heap.size + 1, 8, none⟩ (.slice la L.length lc)).setCell ⟨w.heap.size + 1, 9, none⟩ (.int .i64 0)).setCell ⟨w.heap.size + 1, 10, none⟩ (.slice none 0 0)).setCell ⟨w.heap.size + 1, 11, none⟩ (.slice none 0 0)) (w.heap.size + 1) [.int .i64 h.age, .int .i64 h.kind, .int .i64 h.id, .int .i64 h.adv, .int .i64 h.seq, .int .i64 h.sum, .int .i64 h.len, .int .i64 z0, .slice la L.length lc, .int .i64 0, .slice none 0 0, .slice none 0 0]) := HR.out.put12 (.int .i64 h.age) (.int .i64 h.kind) (.int .i64 h.id) (.int .i64 h.adv) (.int .i64 h.seq) (.int .i64 h.sum) (.int .i64 h.len) (.int .i64 z0) (.slice la L.length lc) (.int .i64 0) (.slice none 0 0) (.slice none 0 0)
  have K2 : Hid (Below w.heap.size w ((((((((((((W9.setCell ⟨w.heap.size + 1, 0, none⟩ (.int .i64 h.age)).setCell ⟨w.heap.size + 1, 1, none⟩ (.int .i64 h.kind)).setCell ⟨w.heap.size + 1, 2, none⟩ (.int .i64 h.id)).setCell ⟨w.heap.size + 1, 3, none⟩ (.int .i64 h.adv)).setCell ⟨w.heap.size + 1, 4, none⟩ (.int .i64 h.seq)).setCell ⟨w.heap.size + 1, 5, none⟩ (.int .i64 h.sum)).setCell ⟨w.heap.size + 1, 6, none⟩ (.int .i64 h.len)).setCell ⟨w.heap.size + 1, 7, none⟩ (.int .i64 z0)).setCell ⟨w.heap.size + 1, 8, none⟩ (.slice la L.length lc)).setCell ⟨w.heap.size + 1, 9, none⟩ (.int .i64 0)).setCell ⟨w.heap.size + 1, 10, none⟩ (.slice none 0 0)).setCell ⟨w.heap.size + 1, 11, none⟩ (.slice none 0 0))) := below_put12 HB.out (by omega) (.int .i64 h.age) (.int .i64 h.kind) (.int .i64 h.id) (.int .i64 h.adv) (.int .i64 h.seq) (.int .i64 h.sum) (.int .i64 h.len) (.int .i64 z0) (.slice la L.length lc) (.int .i64 0) (.slice none 0 0) (.slice none 0 0)
  have K6 : Hid (Lies ((((((((((((W9.setCell ⟨w.heap.size + 1, 0, none⟩ (.int .i64 h.age)).setCell ⟨w.heap.size + 1, 1, none⟩ (.int .i64 h.kind)).setCell ⟨w.heap.size + 1, 2, none⟩ (.int .i64 h.id)).setCell ⟨w.heap.size + 1, 3, none⟩ (.int .i64 h.adv)).setCell ⟨w.heap.size + 1, 4, none⟩ (.int .i64 h.seq)).setCell ⟨w.heap.size + 1, 5, none⟩ (.int .i64 h.sum)).setCell ⟨w.heap.size + 1, 6, none⟩ (.int .i64 h.len)).setCell ⟨w.heap.size + 1, 7, none⟩ (.int .i64 z0)).setCell ⟨w.heap.size + 1, 8, none⟩ (.slice la L.length lc)).setCell ⟨w.heap.size + 1, 9, none⟩ (.int .i64 0)).setCell ⟨w.heap.size + 1, 10, none⟩ (.slice none 0 0)).setCell ⟨w.heap.size + 1, 11, none⟩ (.slice none 0 0)) la _) := HLI.out.put12 HFAR.out (by omega) (.int .i64 h.age) (.int .i64 h.kind) (.int .i64 h.id) (.int .i64 h.adv) (.int .i64 h.seq) (.int .i64 h.sum) (.int .i64 h.len) (.int .i64 z0) (.slice la L.length lc) (.int .i64 0) (.slice none 0 0) (.slice none 0 0)
  have a0 := HL.out.cell 0 rfl
  have a1 := HL.out.cell 1 rfl
  have a2 := HL.out.cell 2 rfl
  have a3 := HL.out.cell 3 rfl
  have a4 := HL.out.cell 4 rfl
  have a5 := HL.out.cell 5 rfl
  have a6 := HL.out.cell 6 rfl
  have a7 := HL.out.cell 7 rfl
  have a8 := HL.out.cell 8 rfl
  have a9 := HL.out.cell 9 rfl
  have a10 := HL.out.cell 10 rfl
  have a11 := HL.out.cell 11 rfl
  have r0 := HR.out.cell 0 rfl
  have r1 := HR.out.cell 1 rfl
  have r2 := HR.out.cell 2 rfl
  have r3 := HR.out.cell 3 rfl
  have r4 := HR.out.cell 4 rfl
  have r5 := HR.out.cell 5 rfl
  have r6 := HR.out.cell 6 rfl
  have r7 := HR.out.cell 7 rfl
  have r8 := HR.out.cell 8 rfl
  have r9 := HR.out.cell 9 rfl
  have r10 := HR.out.cell 10 rfl
  have r11 := HR.out.cell 11 rfl
  have q0 := HR.out.frozen 0
  have q1 := HR.out.frozen 1
  have q2 := HR.out.frozen 2
  have q3 := HR.out.frozen 3
  have q4 := HR.out.frozen 4
  have q5 := HR.out.frozen 5
  have q6 := HR.out.frozen 6
  have q7 := HR.out.frozen 7
  have q8 := HR.out.frozen 8
  have q9 := HR.out.frozen 9
  have q10 := HR.out.frozen 10
  have q11 := HR.out.frozen 11
  go_wp2
  clear a0 a1 a2 a3 a4 a5 a6 a7 a8 a9 a10 a11 r0 r1 r2 r3 r4 r5 r6 r7 r8 r9 r10 r11 q0 q1 q2 q3 q4 q5 q6 q7 q8 q9 q10 q11
  generalize ((((((((((((W9.setCell ⟨w.heap.size + 1, 0, none⟩ (.int .i64 h.age)).setCell ⟨w.heap.size + 1, 1, none⟩ (.int .i64 h.kind)).setCell ⟨w.heap.size + 1, 2, none⟩ (.int .i64 h.id)).setCell ⟨w.heap.size + 1, 3, none⟩ (.int .i64 h.adv)).setCell ⟨w.heap.size + 1, 4, none⟩ (.int .i64 h.seq)).setCell ⟨w.heap.size + 1, 5, none⟩ (.int .i64 h.sum)).setCell ⟨w.heap.size + 1, 6, none⟩ (.int .i64 h.len)).setCell ⟨w.heap.size + 1, 7, none⟩ (.int .i64 z0)).setCell ⟨w.heap.size + 1, 8, none⟩ (.slice la L.length lc)).setCell ⟨w.heap.size + 1, 9, none⟩ (.int .i64 0)).setCell ⟨w.heap.size + 1, 10, none⟩ (.slice none 0 0)).setCell ⟨w.heap.size + 1, 11, none⟩ (.slice none 0 0)) = Z at *
  have c0 := K3.out.cell 0 rfl
  have c1 := K3.out.cell 1 rfl
  have c2 := K3.out.cell 2 rfl
  have c3 := K3.out.cell 3 rfl
  have c4 := K3.out.cell 4 rfl
  have c5 := K3.out.cell 5 rfl
  have c6 := K3.out.cell 6 rfl
  have c7 := K3.out.cell 7 rfl
  have c8 := K3.out.cell 8 rfl
  have c9 := K3.out.cell 9 rfl
  have c10 := K3.out.cell 10 rfl
  have c11 := K3.out.cell 11 rfl
  refine bodyPost_ret (by simp [results, Tryd.results71, go_sem, c0, c1, c2, c3, c4, c5, c6, c7, c8, c9, c10, c11]; try rfl) rfl ?_
  rw [HBO.out]
  exact ⟨⟨la, lc, none, 0, none, 0⟩, rfl, ⟨K6.out, lies_none _ _, lies_none _ _⟩, ⟨HNIL.out, fun _ => rfl, fun _ => rfl⟩, ⟨HFAR.out.mono (by omega), far_none _, far_none _⟩, K2.out⟩
set_option maxHeartbeats 3200000 in
set_option maxRecDepth 20000 in
theorem readBody_6 (h : HeadZ) (a : Option Addr) (n cap : Nat) (zs : List Int) (p : Nat → Addr) (w : World) (hn : n = zs.length) (hE : EnvAt w p) (hS : Slice w a cap zs) (hk : h.kind = 6) (hl : zs.length ≤ 1000000) :
    Calls Tryd.prog 71 #[.agg (headA h), .slice a n cap] w (BodyOk w (bodyOf h zs)) := by
  have e1 : (h.kind == 1) = false := by simp [hk]
  have e2 : (h.kind == 2) = false := by simp [hk]
  have e6 : (h.kind == 6) = true := by simp [hk]
  have HBO : Hid (bodyOf h zs = ⟨h, 0, [], 0, [], readL 8 readVZ zs⟩) := by show _ = _; unfold bodyOf; rw [if_neg (by omega), if_neg (by omega)]
  have HN : Hid (n = zs.length) := hn
  clear hk hn
  have HX : Hid (HBox (w.alloc (.cells (headA h) 23)) w.heap.size h) := hbox_new w h
  have HB0 : Below (w.heap.size + 1) (w.alloc (.cells (headA h) 23)) (((w.alloc (.cells (headA h) 23)).alloc (.cells #[.int .i64 0, .int .i64 0, .int .i64 0, .int .i64 0, .int .i64 0, .int .i64 0, .int .i64 0, .int .i64 0, .slice none 0 0, .int .i64 0, .slice none 0 0, .slice none 0 0] 28)).alloc (.cells #[.int .i64 h.age, .int .i64 h.kind, .int .i64 h.id, .int .i64 h.adv, .int .i64 h.seq, .int .i64 h.sum, .int .i64 h.len, .int .i64 0, .slice none 0 0, .int .i64 0, .slice none 0 0, .slice none 0 0] 28)) := ((Below.refl _ _).alloc (by simp) _).alloc (by simp) _
  have HB : Hid (Below w.heap.size w (((w.alloc (.cells (headA h) 23)).alloc (.cells #[.int .i64 0, .int .i64 0, .int .i64 0, .int .i64 0, .int .i64 0, .int .i64 0, .int .i64 0, .int .i64 0, .slice none 0 0, .int .i64 0, .slice none 0 0, .slice none 0 0] 28)).alloc (.cells #[.int .i64 h.age, .int .i64 h.kind, .int .i64 h.id, .int .i64 h.adv, .int .i64 h.seq, .int .i64 h.sum, .int .i64 h.len, .int .i64 0, .slice none 0 0, .int .i64 0, .slice none 0 0, .slice none 0 0] 28))) := ((below_new' _ _).alloc (by simp) _).alloc (by simp; omega) _
  have HR : Hid (Var (((w.alloc (.cells (headA h) 23)).alloc (.cells #[.int .i64 0, .int .i64 0, .int .i64 0, .int .i64 0, .int .i64 0, .int .i64 0, .int .i64 0, .int .i64 0, .slice none 0 0, .int .i64 0, .slice none 0 0, .slice none 0 0] 28)).alloc (.cells #[.int .i64 h.age, .int .i64 h.kind, .int .i64 h.id, .int .i64 h.adv, .int .i64 h.seq, .int .i64 h.sum, .int .i64 h.len, .int .i64 0, .slice none 0 0, .int .i64 0, .slice none 0 0, .slice none 0 0] 28)) (w.heap.size + 1) [.int .i64 0, .int .i64 0, .int .i64 0, .int .i64 0, .int .i64 0, .int .i64 0, .int .i64 0, .int .i64 0, .slice none 0 0, .int .i64 0, .slice none 0 0, .slice none 0 0]) := by
    have h1 := (var_new (w.alloc (.cells (headA h) 23)) [.int .i64 0, .int .i64 0, .int .i64 0, .int .i64 0, .int .i64 0, .int .i64 0, .int .i64 0, .int .i64 0, .slice none 0 0, .int .i64 0, .slice none 0 0, .slice none 0 0] 28).alloc (.cells #[.int .i64 h.age, .int .i64 h.kind, .int .i64 h.id, .int .i64 h.adv, .int .i64 h.seq, .int .i64 h.sum, .int .i64 h.len, .int .i64 0, .slice none 0 0, .int .i64 0, .slice none 0 0, .slice none 0 0] 28)
    rw [size_new] at h1; exact h1
  have HL : Hid (Var (((w.alloc (.cells (headA h) 23)).alloc (.cells #[.int .i64 0, .int .i64 0, .int .i64 0, .int .i64 0, .int .i64 0, .int .i64 0, .int .i64 0, .int .i64 0, .slice none 0 0, .int .i64 0, .slice none 0 0, .slice none 0 0] 28)).alloc (.cells #[.int .i64 h.age, .int .i64 h.kind, .int .i64 h.id, .int .i64 h.adv, .int .i64 h.seq, .int .i64 h.sum, .int .i64 h.len, .int .i64 0, .slice none 0 0, .int .i64 0, .slice none 0 0, .slice none 0 0] 28)) (w.heap.size + 2) [.int .i64 h.age, .int .i64 h.kind, .int .i64 h.id, .int .i64 h.adv, .int .i64 h.seq, .int .i64 h.sum, .int .i64 h.len, .int .i64 0, .slice none 0 0, .int .i64 0, .slice none 0 0, .slice none 0 0]) := by
    have h1 := var_new ((w.alloc (.cells (headA h) 23)).alloc (.cells #[.int .i64 0, .int .i64 0, .int .i64 0, .int .i64 0, .int .i64 0, .int .i64 0, .int .i64 0, .int .i64 0, .slice none 0 0, .int .i64 0, .slice none 0 0, .slice none 0 0] 28)) [.int .i64 h.age, .int .i64 h.kind, .int .i64 h.id, .int .i64 h.adv, .int .i64 h.seq, .int .i64 h.sum, .int .i64 h.len, .int .i64 0, .slice none 0 0, .int .i64 0, .slice none 0 0, .slice none 0 0] 28
    rw [size_new, size_new] at h1; exact h1
  replace HX : Hid (HBox (((w.alloc (.cells (headA h) 23)).alloc (.cells #[.int .i64 0, .int .i64 0, .int .i64 0, .int .i64 0, .int .i64 0, .int .i64 0, .int .i64 0, .int .i64 0, .slice none 0 0, .int .i64 0, .slice none 0 0, .slice none 0 0] 28)).alloc (.cells #[.int .i64 h.age, .int .i64 h.kind, .int .i64 h.id, .int .i64 h.adv, .int .i64 h.seq, .int .i64 h.sum, .int .i64 h.len, .int .i64 0, .slice none 0 0, .int .i64 0, .slice none 0 0, .slice none 0 0] 28)) w.heap.size h) := HX.out.below HB0 (by omega)
  have HE : Hid (EnvAt w p) := hE
  have HS : Hid (Slice w a cap zs) := hS
  clear HB0 hE hS
  go_enter Tryd.func71, Tryd.ntmps71
  go_upto_region 2 with fail
  generalize (((w.alloc (.cells (headA h) 23)).alloc (.cells #[.int .i64 0, .int .i64 0, .int .i64 0, .int .i64 0, .int .i64 0, .int .i64 0, .int .i64 0, .int .i64 0, .slice none 0 0, .int .i64 0, .slice none 0 0, .slice none 0 0] 28)).alloc (.cells #[.int .i64 h.age, .int .i64 h.kind, .int .i64 h.id, .int .i64 h.adv, .int .i64 h.seq, .int .i64 h.sum, .int .i64 h.len, .int .i64 0, .slice none 0 0, .int .i64 0, .slice none 0 0, .slice none 0 0] 28)) = W at *
  obtain ⟨x0, x1, x2, x3, x4, x5, x6⟩ := HX.out
  clear x0 x2 x3 x4 x5 x6
  have hcall := readVerts_any a n cap zs W HN.out (HS.out.below HB.out) hl
  have HLL : Hid ((readL 8 readVZ zs).length ≤ 1000000) := by show _ ≤ _; rw [readL_length]; have : zs.length / 8 ≤ zs.length := Nat.div_le_self _ _; omega
  generalize readL 8 readVZ zs = L at *
  go_wp2_with fail
  refine hcall.mono ?_
  rintro e w2 ⟨la, lc, rfl, hli, hnil, hfar, hb⟩
  have HSZ : w.heap.size + 2 < W.heap.size := HL.out.lt
  replace HL : Hid (Var w2 (w.heap.size + 2) [.int .i64 h.age, .int .i64 h.kind, .int .i64 h.id, .int .i64 h.adv, .int .i64 h.seq, .int .i64 h.sum, .int .i64 h.len, .int .i64 0, .slice none 0 0, .int .i64 0, .slice none 0 0, .slice none 0 0]) := HL.out.below hb HL.out.lt
  replace HR : Hid (Var w2 (w.heap.size + 1) [.int .i64 0, .int .i64 0, .int .i64 0, .int .i64 0, .int .i64 0, .int .i64 0, .int .i64 0, .int .i64 0, .slice none 0 0, .int .i64 0, .slice none 0 0, .slice none 0 0]) := HR.out.below hb HR.out.lt
  replace HB : Hid (Below w.heap.size w w2) := below_more HB.out hb HB.out.size
  have HLI : Hid (Lies w2 _ _) := hli
  have HFAR : Hid (Far _ _) := hfar
  have HNIL : Hid (_ → _) := hnil
  clear hb hli hfar hnil hcall
  have s11 := HL.out.cell 11 rfl
  have f11 := HL.out.frozen 11
  replace HL : Hid (Var (w2.setCell ⟨w.heap.size + 2, 11, none⟩ (.slice la L.length lc)) (w.heap.size + 2) [.int .i64 h.age, .int .i64 h.kind, .int .i64 h.id, .int .i64 h.adv, .int .i64 h.seq, .int .i64 h.sum, .int .i64 h.len, .int .i64 0, .slice none 0 0, .int .i64 0, .slice none 0 0, .slice la L.length lc]) := HL.out.set 11 _
  replace HR : Hid (Var (w2.setCell ⟨w.heap.size + 2, 11, none⟩ (.slice la L.length lc)) (w.heap.size + 1) [.int .i64 0, .int .i64 0, .int .i64 0, .int .i64 0, .int .i64 0, .int .i64 0, .int .i64 0, .int .i64 0, .slice none 0 0, .int .i64 0, .slice none 0 0, .slice none 0 0]) := HR.out.other (by omega) 11 _
  replace HB : Hid (Below w.heap.size w (w2.setCell ⟨w.heap.size + 2, 11, none⟩ (.slice la L.length lc))) := HB.out.setCell (by show _ ≤ _; simp) _
  replace HLI : Hid (Lies (w2.setCell ⟨w.heap.size + 2, 11, none⟩ (.slice la L.length lc)) _ _) := HLI.out.set HFAR.out (by show _ < _; simpa using HSZ) _
  go_upto_region 16 with fail
  generalize w2.setCell ⟨w.heap.size + 2, 11, none⟩ (.slice la L.length lc) = W9 at *
  clear s11 f11
  have K3 : Hid (Var ((((((((((((W9.setCell ⟨w.heap.size + 1, 0, none⟩ (.int .i64 h.age)).setCell ⟨w.heap.size + 1, 1, none⟩ (.int .i64 h.kind)).setCell ⟨w.heap.size + 1, 2, none⟩ (.int .i64 h.id)).setCell ⟨w.heap.size + 1, 3, none⟩ (.int .i64 h.adv)).setCell ⟨w.heap.size + 1, 4, none⟩ (.int .i64 h.seq)).setCell ⟨w.heap.size + 1, 5, none⟩ (.int .i64 h.sum)).setCell ⟨w.heap.size + 1, 6, none⟩ (.int .i64 h.len)).setCell ⟨w.heap.size + 1, 7, none⟩ (.int .i64 0)).setCell ⟨w.heap.size + 1, 8, none⟩ (.slice none 0 0)).setCell ⟨w.heap.size + 1, 9, none⟩ (.int .i64 0)).setCell ⟨w.heap.size + 1, 10, none⟩ (.slice none 0 0)).setCell ⟨w.heap.size + 1, 11, none⟩ (.slice la L.length lc)) (w.heap.size + 1) [.int .i64 h.age, .int .i64 h.kind, .int .i64 h.id, .int .i64 h.adv, .int .i64 h.seq, .int .i64 h.sum, .int .i64 h.len, .int .i64 0, .slice none 0 0, .int .i64 0, .slice none 0 0, .slice la L.length lc]) := HR.out.put12 (.int .i64 h.age) (.int .i64 h.kind) (.int .i64 h.id) (.int .i64 h.adv) (.int .i64 h.seq) (.int .i64 h.sum) (.int .i64 h.len) (.int .i64 0) (.slice none 0 0) (.int .i64 0) (.slice none 0 0) (.slice la L.length lc)
  have K2 : Hid (Below w.heap.size w ((((((((((((W9.setCell ⟨w.heap.size + 1, 0, none⟩ (.int .i64 h.age)).setCell ⟨w.heap.size + 1, 1, none⟩ (.int .i64 h.kind)).setCell ⟨w.heap.size + 1, 2, none⟩ (.int .i64 h.id)).setCell ⟨w.heap.size + 1, 3, none⟩ (.int .i64 h.adv)).setCell ⟨w.heap.size + 1, 4, none⟩ (.int .i64 h.seq)).setCell ⟨w.heap.size + 1, 5, none⟩ (.int .i64 h.sum)).setCell ⟨w.heap.size + 1, 6, none⟩ (.int .i64 h.len)).setCell ⟨w.heap.size + 1, 7, none⟩ (.int .i64 0)).setCell ⟨w.heap.size + 1, 8, none⟩ (.slice none 0 0)).setCell ⟨w.heap.size + 1, 9, none⟩ (.int .i64 0)).setCell ⟨w.heap.size + 1, 10, none⟩ (.slice none 0 0)).setCell ⟨w.heap.size + 1, 11, none⟩ (.slice la L.length lc))) := below_put12 HB.out (by omega) (.int .i64 h.age) (.int .i64 h.kind) (.int .i64 h.id) (.int .i64 h.adv) (.int .i64 h.seq) (.int .i64 h.sum) (.int .i64 h.len) (.int .i64 0) (.slice none 0 0) (.int .i64 0) (.slice none 0 0) (.slice la L.length lc)
  have K6 : Hid (Lies ((((((((((((W9.setCell ⟨w.heap.size + 1, 0, none⟩ (.int .i64 h.age)).setCell ⟨w.heap.size + 1, 1, none⟩ (.int .i64 h.kind)).setCell ⟨w.heap.size + 1, 2, none⟩ (.int .i64 h.id)).setCell ⟨w.heap.size + 1, 3, none⟩ (.int .i64 h.adv)).setCell ⟨w.heap.size + 1, 4, none⟩ (.int .i64 h.seq)).setCell ⟨w.heap.size + 1, 5, none⟩ (.int .i64 h.sum)).setCell ⟨w.heap.size + 1, 6, none⟩ (.int .i64 h.len)).setCell ⟨w.heap.size + 1, 7, none⟩ (.int .i64 0)).setCell ⟨w.heap.size + 1, 8, none⟩ (.slice none 0 0)).setCell ⟨w.heap.size + 1, 9, none⟩ (.int .i64 0)).setCell ⟨w.heap.size + 1, 10, none⟩ (.slice none 0 0)).setCell ⟨w.heap.size + 1, 11, none⟩ (.slice la L.length lc)) la _) := HLI.out.put12 HFAR.out (by omega) (.int .i64 h.age) (.int .i64 h.kind) (.int .i64 h.id) (.int .i64 h.adv) (.int .i64 h.seq) (.int .i64 h.sum) (.int .i64 h.len) (.int .i64 0) (.slice none 0 0) (.int .i64 0) (.slice none 0 0) (.slice la L.length lc)
  have a0 := HL.out.cell 0 rfl
  have a1 := HL.out.cell 1 rfl
  have a2 := HL.out.cell 2 rfl
  have a3 := HL.out.cell 3 rfl
  have a4 := HL.out.cell 4 rfl
  have a5 := HL.out.cell 5 rfl
  have a6 := HL.out.cell 6 rfl
  have a7 := HL.out.cell 7 rfl
  have a8 := HL.out.cell 8 rfl
  have a9 := HL.out.cell 9 rfl
  have a10 := HL.out.cell 10 rfl
  have a11 := HL.out.cell 11 rfl
  have r0 := HR.out.cell 0 rfl
  have r1 := HR.out.cell 1 rfl
  have r2 := HR.out.cell 2 rfl
  have r3 := HR.out.cell 3 rfl
  have r4 := HR.out.cell 4 rfl
  have r5 := HR.out.cell 5 rfl
  have r6 := HR.out.cell 6 rfl
  have r7 := HR.out.cell 7 rfl
  have r8 := HR.out.cell 8 rfl
  have r9 := HR.out.cell 9 rfl
  have r10 := HR.out.cell 10 rfl
  have r11 := HR.out.cell 11 rfl
  have q0 := HR.out.frozen 0
  have q1 := HR.out.frozen 1
  have q2 := HR.out.frozen 2
  have q3 := HR.out.frozen 3
  have q4 := HR.out.frozen 4
  have q5 := HR.out.frozen 5
  have q6 := HR.out.frozen 6
  have q7 := HR.out.frozen 7
  have q8 := HR.out.frozen 8
  have q9 := HR.out.frozen 9
  have q10 := HR.out.frozen 10
  have q11 := HR.out.frozen 11
  go_wp2
  clear a0 a1 a2 a3 a4 a5 a6 a7 a8 a9 a10 a11 r0 r1 r2 r3 r4 r5 r6 r7 r8 r9 r10 r11 q0 q1 q2 q3 q4 q5 q6 q7 q8 q9 q10 q11
  generalize ((((((((((((W9.setCell ⟨w.heap.size + 1, 0, none⟩ (.int .i64 h.age)).setCell ⟨w.heap.size + 1, 1, none⟩ (.int .i64 h.kind)).setCell ⟨w.heap.size + 1, 2, none⟩ (.int .i64 h.id)).setCell ⟨w.heap.size + 1, 3, none⟩ (.int .i64 h.adv)).setCell ⟨w.heap.size + 1, 4, none⟩ (.int .i64 h.seq)).setCell ⟨w.heap.size + 1, 5, none⟩ (.int .i64 h.sum)).setCell ⟨w.heap.size + 1, 6, none⟩ (.int .i64 h.len)).setCell ⟨w.heap.size + 1, 7, none⟩ (.int .i64 0)).setCell ⟨w.heap.size + 1, 8, none⟩ (.slice none 0 0)).setCell ⟨w.heap.size + 1, 9, none⟩ (.int .i64 0)).setCell ⟨w.heap.size + 1, 10, none⟩ (.slice none 0 0)).setCell ⟨w.heap.size + 1, 11, none⟩ (.slice la L.length lc)) = Z at *
  have c0 := K3.out.cell 0 rfl
  have c1 := K3.out.cell 1 rfl
  have c2 := K3.out.cell 2 rfl
  have c3 := K3.out.cell 3 rfl
  have c4 := K3.out.cell 4 rfl
  have c5 := K3.out.cell 5 rfl
  have c6 := K3.out.cell 6 rfl
  have c7 := K3.out.cell 7 rfl
  have c8 := K3.out.cell 8 rfl
  have c9 := K3.out.cell 9 rfl
  have c10 := K3.out.cell 10 rfl
  have c11 := K3.out.cell 11 rfl
  refine bodyPost_ret (by simp [results, Tryd.results71, go_sem, c0, c1, c2, c3, c4, c5, c6, c7, c8, c9, c10, c11]; try rfl) rfl ?_
  rw [HBO.out]
  exact ⟨⟨none, 0, none, 0, la, lc⟩, rfl, ⟨lies_none _ _, lies_none _ _, K6.out⟩, ⟨fun _ => rfl, fun _ => rfl, HNIL.out⟩, ⟨far_none _, far_none _, HFAR.out.mono (by omega)⟩, K2.out⟩
set_option maxHeartbeats 3200000 in
set_option maxRecDepth 20000 in
theorem readBody_2 (h : HeadZ) (a : Option Addr) (n cap : Nat) (zs : List Int) (p : Nat → Addr) (w : World) (hn : n = zs.length) (hE : EnvAt w p) (hS : Slice w a cap zs) (hk : h.kind = 2) (h4 : 4 ≤ zs.length) (hl : zs.length ≤ 1000000) :
    Calls Tryd.prog 71 #[.agg (headA h), .slice a n cap] w (BodyOk w (bodyOf h zs)) := by
  have e1 : (h.kind == 1) = false := by simp [hk]
  have e2 : (h.kind == 2) = true := by simp [hk]
  have h4' : ¬ (n : Int) < 4 := by omega
  have HBO : Hid (bodyOf h zs = ⟨h, 0, [], bitsZ (num4At zs 0), readL 4 readIZ (zs.drop 4), []⟩) := by show _ = _; unfold bodyOf; rw [if_neg (by omega), if_pos hk]
  have hroom := hS.room
  have HN : Hid (n = zs.length) := hn
  have hn4 : 4 ≤ n := by omega
  have hnc : n ≤ cap := by omega
  have j4 : (4 : Int) ≤ (cap : Int) := by omega
  clear hk hn
  have HX : Hid (HBox (w.alloc (.cells (headA h) 23)) w.heap.size h) := hbox_new w h
  have HB0 : Below (w.heap.size + 1) (w.alloc (.cells (headA h) 23)) (((w.alloc (.cells (headA h) 23)).alloc (.cells #[.int .i64 0, .int .i64 0, .int .i64 0, .int .i64 0, .int .i64 0, .int .i64 0, .int .i64 0, .int .i64 0, .slice none 0 0, .int .i64 0, .slice none 0 0, .slice none 0 0] 28)).alloc (.cells #[.int .i64 h.age, .int .i64 h.kind, .int .i64 h.id, .int .i64 h.adv, .int .i64 h.seq, .int .i64 h.sum, .int .i64 h.len, .int .i64 0, .slice none 0 0, .int .i64 0, .slice none 0 0, .slice none 0 0] 28)) := ((Below.refl _ _).alloc (by simp) _).alloc (by simp) _
  have HB : Hid (Below w.heap.size w (((w.alloc (.cells (headA h) 23)).alloc (.cells #[.int .i64 0, .int .i64 0, .int .i64 0, .int .i64 0, .int .i64 0, .int .i64 0, .int .i64 0, .int .i64 0, .slice none 0 0, .int .i64 0, .slice none 0 0, .slice none 0 0] 28)).alloc (.cells #[.int .i64 h.age, .int .i64 h.kind, .int .i64 h.id, .int .i64 h.adv, .int .i64 h.seq, .int .i64 h.sum, .int .i64 h.len, .int .i64 0, .slice none 0 0, .int .i64 0, .slice none 0 0, .slice none 0 0] 28))) := ((below_new' _ _).alloc (by simp) _).alloc (by simp; omega) _
  have HR : Hid (Var (((w.alloc (.cells (headA h) 23)).alloc (.cells #[.int .i64 0, .int .i64 0, .int .i64 0, .int .i64 0, .int .i64 0, .int .i64 0, .int .i64 0, .int .i64 0, .slice none 0 0, .int .i64 0, .slice none 0 0, .slice none 0 0] 28)).alloc (.cells #[.int .i64 h.age, .int .i64 h.kind, .int .i64 h.id, .int .i64 h.adv, .int .i64 h.seq, .int .i64 h.sum, .int .i64 h.len, .int .i64 0, .slice none 0 0, .int .i64 0, .slice none 0 0, .slice none 0 0] 28)) (w.heap.size + 1) [.int .i64 0, .int .i64 0, .int .i64 0, .int .i64 0, .int .i64 0, .int .i64 0, .int .i64 0, .int .i64 0, .slice none 0 0, .int .i64 0, .slice none 0 0, .slice none 0 0]) := by
    have h1 := (var_new (w.alloc (.cells (headA h) 23)) [.int .i64 0, .int .i64 0, .int .i64 0, .int .i64 0, .int .i64 0, .int .i64 0, .int .i64 0, .int .i64 0, .slice none 0 0, .int .i64 0, .slice none 0 0, .slice none 0 0] 28).alloc (.cells #[.int .i64 h.age, .int .i64 h.kind, .int .i64 h.id, .int .i64 h.adv, .int .i64 h.seq, .int .i64 h.sum, .int .i64 h.len, .int .i64 0, .slice none 0 0, .int .i64 0, .slice none 0 0, .slice none 0 0] 28)
    rw [size_new] at h1; exact h1
  have HL : Hid (Var (((w.alloc (.cells (headA h) 23)).alloc (.cells #[.int .i64 0, .int .i64 0, .int .i64 0, .int .i64 0, .int .i64 0, .int .i64 0, .int .i64 0, .int .i64 0, .slice none 0 0, .int .i64 0, .slice none 0 0, .slice none 0 0] 28)).alloc (.cells #[.int .i64 h.age, .int .i64 h.kind, .int .i64 h.id, .int .i64 h.adv, .int .i64 h.seq, .int .i64 h.sum, .int .i64 h.len, .int .i64 0, .slice none 0 0, .int .i64 0, .slice none 0 0, .slice none 0 0] 28)) (w.heap.size + 2) [.int .i64 h.age, .int .i64 h.kind, .int .i64 h.id, .int .i64 h.adv, .int .i64 h.seq, .int .i64 h.sum, .int .i64 h.len, .int .i64 0, .slice none 0 0, .int .i64 0, .slice none 0 0, .slice none 0 0]) := by
    have h1 := var_new ((w.alloc (.cells (headA h) 23)).alloc (.cells #[.int .i64 0, .int .i64 0, .int .i64 0, .int .i64 0, .int .i64 0, .int .i64 0, .int .i64 0, .int .i64 0, .slice none 0 0, .int .i64 0, .slice none 0 0, .slice none 0 0] 28)) [.int .i64 h.age, .int .i64 h.kind, .int .i64 h.id, .int .i64 h.adv, .int .i64 h.seq, .int .i64 h.sum, .int .i64 h.len, .int .i64 0, .slice none 0 0, .int .i64 0, .slice none 0 0, .slice none 0 0] 28
    rw [size_new, size_new] at h1; exact h1
  replace HX : Hid (HBox (((w.alloc (.cells (headA h) 23)).alloc (.cells #[.int .i64 0, .int .i64 0, .int .i64 0, .int .i64 0, .int .i64 0, .int .i64 0, .int .i64 0, .int .i64 0, .slice none 0 0, .int .i64 0, .slice none 0 0, .slice none 0 0] 28)).alloc (.cells #[.int .i64 h.age, .int .i64 h.kind, .int .i64 h.id, .int .i64 h.adv, .int .i64 h.seq, .int .i64 h.sum, .int .i64 h.len, .int .i64 0, .slice none 0 0, .int .i64 0, .slice none 0 0, .slice none 0 0] 28)) w.heap.size h) := HX.out.below HB0 (by omega)
  have HE : Hid (EnvAt w p) := hE
  have HS : Hid (Slice w a cap zs) := hS
  clear HB0 hE hS
  go_enter Tryd.func71, Tryd.ntmps71
  go_upto_region 2 with fail
  generalize (((w.alloc (.cells (headA h) 23)).alloc (.cells #[.int .i64 0, .int .i64 0, .int .i64 0, .int .i64 0, .int .i64 0, .int .i64 0, .int .i64 0, .int .i64 0, .slice none 0 0, .int .i64 0, .slice none 0 0, .slice none 0 0] 28)).alloc (.cells #[.int .i64 h.age, .int .i64 h.kind, .int .i64 h.id, .int .i64 h.adv, .int .i64 h.seq, .int .i64 h.sum, .int .i64 h.len, .int .i64 0, .slice none 0 0, .int .i64 0, .slice none 0 0, .slice none 0 0] 28)) = W at *
  obtain ⟨x0, x1, x2, x3, x4, x5, x6⟩ := HX.out
  clear x0 x2 x3 x4 x5 x6
  obtain ⟨b, off, rfl, hcell⟩ := slice_some (HS.out.below HB.out) (by omega)
  have hnum := wnum_4 b off zs.length cap 0 off zs W rfl hcell HS.out.bd (by omega)
  generalize num4At zs 0 = M at *
  have hbit := bits_any M W
  generalize bitsZ M = B at *
  go_wp2_with fail
  refine hnum.mono ?_
  rintro e w1 ⟨rfl, hw1⟩
  subst w1
  go_wp2_with fail
  refine hbit.mono ?_
  rintro e w1 ⟨rfl, hw1⟩
  subst w1
  clear hnum hbit hcell
  have s9 := HL.out.cell 9 rfl
  have f9 := HL.out.frozen 9
  replace HL : Hid (Var (W.setCell ⟨w.heap.size + 2, 9, none⟩ (.int .i64 B)) (w.heap.size + 2) [.int .i64 h.age, .int .i64 h.kind, .int .i64 h.id, .int .i64 h.adv, .int .i64 h.seq, .int .i64 h.sum, .int .i64 h.len, .int .i64 0, .slice none 0 0, .int .i64 B, .slice none 0 0, .slice none 0 0]) := HL.out.set 9 _
  replace HR : Hid (Var (W.setCell ⟨w.heap.size + 2, 9, none⟩ (.int .i64 B)) (w.heap.size + 1) [.int .i64 0, .int .i64 0, .int .i64 0, .int .i64 0, .int .i64 0, .int .i64 0, .int .i64 0, .int .i64 0, .slice none 0 0, .int .i64 0, .slice none 0 0, .slice none 0 0]) := HR.out.other (by omega) 9 _
  replace HB : Hid (Below w.heap.size w (W.setCell ⟨w.heap.size + 2, 9, none⟩ (.int .i64 B))) := HB.out.setCell (by show _ ≤ _; simp) _
  go_upto_region 13 with fail
  generalize W.setCell ⟨w.heap.size + 2, 9, none⟩ (.int .i64 B) = W1 at *
  clear s9 f9
  obtain ⟨ad, had, hsl⟩ := slice_ad (HS.out.below HB.out) (m := 4) (by omega)
  have hcall := readInts_any ad (n - 4) (cap - 4) (zs.drop 4) W1 (by rw [HN.out]; simp) hsl (by simp; omega)
  have HLL : Hid ((readL 4 readIZ (zs.drop 4)).length ≤ 1000000) := by show _ ≤ _; rw [readL_length, List.length_drop]; have : (zs.length - 4) / 4 ≤ zs.length - 4 := Nat.div_le_self _ _; omega
  clear hsl
  generalize readL 4 readIZ (zs.drop 4) = L at *
  go_wp2_with fail
  refine hcall.mono ?_
  rintro e w2 ⟨la, lc, rfl, hli, hnil, hfar, hb⟩
  have HSZ : w.heap.size + 2 < W1.heap.size := HL.out.lt
  replace HL : Hid (Var w2 (w.heap.size + 2) [.int .i64 h.age, .int .i64 h.kind, .int .i64 h.id, .int .i64 h.adv, .int .i64 h.seq, .int .i64 h.sum, .int .i64 h.len, .int .i64 0, .slice none 0 0, .int .i64 B, .slice none 0 0, .slice none 0 0]) := HL.out.below hb HL.out.lt
  replace HR : Hid (Var w2 (w.heap.size + 1) [.int .i64 0, .int .i64 0, .int .i64 0, .int .i64 0, .int .i64 0, .int .i64 0, .int .i64 0, .int .i64 0, .slice none 0 0, .int .i64 0, .slice none 0 0, .slice none 0 0]) := HR.out.below hb HR.out.lt
  replace HB : Hid (Below w.heap.size w w2) := below_more HB.out hb HB.out.size
  have HLI : Hid (Lies w2 _ _) := hli
  have HFAR : Hid (Far _ _) := hfar
  have HNIL : Hid (_ → _) := hnil
  clear hb hli hfar hnil hcall
  have s10 := HL.out.cell 10 rfl
  have f10 := HL.out.frozen 10
  replace HL : Hid (Var (w2.setCell ⟨w.heap.size + 2, 10, none⟩ (.slice la L.length lc)) (w.heap.size + 2) [.int .i64 h.age, .int .i64 h.kind, .int .i64 h.id, .int .i64 h.adv, .int .i64 h.seq, .int .i64 h.sum, .int .i64 h.len, .int .i64 0, .slice none 0 0, .int .i64 B, .slice la L.length lc, .slice none 0 0]) := HL.out.set 10 _
  replace HR : Hid (Var (w2.setCell ⟨w.heap.size + 2, 10, none⟩ (.slice la L.length lc)) (w.heap.size + 1) [.int .i64 0, .int .i64 0, .int .i64 0, .int .i64 0, .int .i64 0, .int .i64 0, .int .i64 0, .int .i64 0, .slice none 0 0, .int .i64 0, .slice none 0 0, .slice none 0 0]) := HR.out.other (by omega) 10 _
  replace HB : Hid (Below w.heap.size w (w2.setCell ⟨w.heap.size + 2, 10, none⟩ (.slice la L.length lc))) := HB.out.setCell (by show _ ≤ _; simp) _
  replace HLI : Hid (Lies (w2.setCell ⟨w.heap.size + 2, 10, none⟩ (.slice la L.length lc)) _ _) := HLI.out.set HFAR.out (by show _ < _; simpa using HSZ) _
  go_upto_region 16 with fail
  generalize w2.setCell ⟨w.heap.size + 2, 10, none⟩ (.slice la L.length lc) = W9 at *
  clear s10 f10
  have K3 : Hid (Var ((((((((((((W9.setCell ⟨w.heap.size + 1, 0, none⟩ (.int .i64 h.age)).setCell ⟨w.heap.size + 1, 1, none⟩ (.int .i64 h.kind)).setCell ⟨w.heap.size + 1, 2, none⟩ (.int .i64 h.id)).setCell ⟨w.heap.size + 1, 3, none⟩ (.int .i64 h.adv)).setCell ⟨w.heap.size + 1, 4, none⟩ (.int .i64 h.seq)).setCell ⟨w.heap.size + 1, 5, none⟩ (.int .i64 h.sum)).setCell ⟨w.heap.size + 1, 6, none⟩ (.int .i64 h.len)).setCell ⟨w.heap.size + 1, 7, none⟩ (.int .i64 0)).setCell ⟨w.heap.size + 1, 8, none⟩ (.slice none 0 0)).setCell ⟨w.heap.size + 1, 9, none⟩ (.int .i64 B)).setCell ⟨w.heap.size + 1, 10, none⟩ (.slice la L.length lc)).setCell ⟨w.heap.size + 1, 11, none⟩ (.slice none 0 0)) (w.heap.size + 1) [.int .i64 h.age, .int .i64 h.kind, .int .i64 h.id, .int .i64 h.adv, .int .i64 h.seq, .int .i64 h.sum, .int .i64 h.len, .int .i64 0, .slice none 0 0, .int .i64 B, .slice la L.length lc, .slice none 0 0]) := HR.out.put12 (.int .i64 h.age) (.int .i64 h.kind) (.int .i64 h.id) (.int .i64 h.adv) (.int .i64 h.seq) (.int .i64 h.sum) (.int .i64 h.len) (.int .i64 0) (.slice none 0 0) (.int .i64 B) (.slice la L.length lc) (.slice none 0 0)
  have K2 : Hid (Below w.heap.size w ((((((((((((W9.setCell ⟨w.heap.size + 1, 0, none⟩ (.int .i64 h.age)).setCell ⟨w.heap.size + 1, 1, none⟩ (.int .i64 h.kind)).setCell ⟨w.heap.size + 1, 2, none⟩ (.int .i64 h.id)).setCell ⟨w.heap.size + 1, 3, none⟩ (.int .i64 h.adv)).setCell ⟨w.heap.size + 1, 4, none⟩ (.int .i64 h.seq)).setCell ⟨w.heap.size + 1, 5, none⟩ (.int .i64 h.sum)).setCell ⟨w.heap.size + 1, 6, none⟩ (.int .i64 h.len)).setCell ⟨w.heap.size + 1, 7, none⟩ (.int .i64 0)).setCell ⟨w.heap.size + 1, 8, none⟩ (.slice none 0 0)).setCell ⟨w.heap.size + 1, 9, none⟩ (.int .i64 B)).setCell ⟨w.heap.size + 1, 10, none⟩ (.slice la L.length lc)).setCell ⟨w.heap.size + 1, 11, none⟩ (.slice none 0 0))) := below_put12 HB.out (by omega) (.int .i64 h.age) (.int .i64 h.kind) (.int .i64 h.id) (.int .i64 h.adv) (.int .i64 h.seq) (.int .i64 h.sum) (.int .i64 h.len) (.int .i64 0) (.slice none 0 0) (.int .i64 B) (.slice la L.length lc) (.slice none 0 0)
  have K6 : Hid (Lies ((((((((((((W9.setCell ⟨w.heap.size + 1, 0, none⟩ (.int .i64 h.age)).setCell ⟨w.heap.size + 1, 1, none⟩ (.int .i64 h.kind)).setCell ⟨w.heap.size + 1, 2, none⟩ (.int .i64 h.id)).setCell ⟨w.heap.size + 1, 3, none⟩ (.int .i64 h.adv)).setCell ⟨w.heap.size + 1, 4, none⟩ (.int .i64 h.seq)).setCell ⟨w.heap.size + 1, 5, none⟩ (.int .i64 h.sum)).setCell ⟨w.heap.size + 1, 6, none⟩ (.int .i64 h.len)).setCell ⟨w.heap.size + 1, 7, none⟩ (.int .i64 0)).setCell ⟨w.heap.size + 1, 8, none⟩ (.slice none 0 0)).setCell ⟨w.heap.size + 1, 9, none⟩ (.int .i64 B)).setCell ⟨w.heap.size + 1, 10, none⟩ (.slice la L.length lc)).setCell ⟨w.heap.size + 1, 11, none⟩ (.slice none 0 0)) la _) := HLI.out.put12 HFAR.out (by omega) (.int .i64 h.age) (.int .i64 h.kind) (.int .i64 h.id) (.int .i64 h.adv) (.int .i64 h.seq) (.int .i64 h.sum) (.int .i64 h.len) (.int .i64 0) (.slice none 0 0) (.int .i64 B) (.slice la L.length lc) (.slice none 0 0)
  have a0 := HL.out.cell 0 rfl
  have a1 := HL.out.cell 1 rfl
  have a2 := HL.out.cell 2 rfl
  have a3 := HL.out.cell 3 rfl
  have a4 := HL.out.cell 4 rfl
  have a5 := HL.out.cell 5 rfl
  have a6 := HL.out.cell 6 rfl
  have a7 := HL.out.cell 7 rfl
  have a8 := HL.out.cell 8 rfl
  have a9 := HL.out.cell 9 rfl
  have a10 := HL.out.cell 10 rfl
  have a11 := HL.out.cell 11 rfl
  have r0 := HR.out.cell 0 rfl
  have r1 := HR.out.cell 1 rfl
  have r2 := HR.out.cell 2 rfl
  have r3 := HR.out.cell 3 rfl
  have r4 := HR.out.cell 4 rfl
  have r5 := HR.out.cell 5 rfl
  have r6 := HR.out.cell 6 rfl
  have r7 := HR.out.cell 7 rfl
  have r8 := HR.out.cell 8 rfl
  have r9 := HR.out.cell 9 rfl
  have r10 := HR.out.cell 10 rfl
  have r11 := HR.out.cell 11 rfl
  have q0 := HR.out.frozen 0
  have q1 := HR.out.frozen 1
  have q2 := HR.out.frozen 2
  have q3 := HR.out.frozen 3
  have q4 := HR.out.frozen 4
  have q5 := HR.out.frozen 5
  have q6 := HR.out.frozen 6
  have q7 := HR.out.frozen 7
  have q8 := HR.out.frozen 8
  have q9 := HR.out.frozen 9
  have q10 := HR.out.frozen 10
  have q11 := HR.out.frozen 11
  go_wp2
  clear a0 a1 a2 a3 a4 a5 a6 a7 a8 a9 a10 a11 r0 r1 r2 r3 r4 r5 r6 r7 r8 r9 r10 r11 q0 q1 q2 q3 q4 q5 q6 q7 q8 q9 q10 q11
  generalize ((((((((((((W9.setCell ⟨w.heap.size + 1, 0, none⟩ (.int .i64 h.age)).setCell ⟨w.heap.size + 1, 1, none⟩ (.int .i64 h.kind)).setCell ⟨w.heap.size + 1, 2, none⟩ (.int .i64 h.id)).setCell ⟨w.heap.size + 1, 3, none⟩ (.int .i64 h.adv)).setCell ⟨w.heap.size + 1, 4, none⟩ (.int .i64 h.seq)).setCell ⟨w.heap.size + 1, 5, none⟩ (.int .i64 h.sum)).setCell ⟨w.heap.size + 1, 6, none⟩ (.int .i64 h.len)).setCell ⟨w.heap.size + 1, 7, none⟩ (.int .i64 0)).setCell ⟨w.heap.size + 1, 8, none⟩ (.slice none 0 0)).setCell ⟨w.heap.size + 1, 9, none⟩ (.int .i64 B)).setCell ⟨w.heap.size + 1, 10, none⟩ (.slice la L.length lc)).setCell ⟨w.heap.size + 1, 11, none⟩ (.slice none 0 0)) = Z at *
  have c0 := K3.out.cell 0 rfl
  have c1 := K3.out.cell 1 rfl
  have c2 := K3.out.cell 2 rfl
  have c3 := K3.out.cell 3 rfl
  have c4 := K3.out.cell 4 rfl
  have c5 := K3.out.cell 5 rfl
  have c6 := K3.out.cell 6 rfl
  have c7 := K3.out.cell 7 rfl
  have c8 := K3.out.cell 8 rfl
  have c9 := K3.out.cell 9 rfl
  have c10 := K3.out.cell 10 rfl
  have c11 := K3.out.cell 11 rfl
  refine bodyPost_ret (by simp [results, Tryd.results71, go_sem, c0, c1, c2, c3, c4, c5, c6, c7, c8, c9, c10, c11]; try rfl) rfl ?_
  rw [HBO.out]
  exact ⟨⟨none, 0, la, lc, none, 0⟩, rfl, ⟨lies_none _ _, K6.out, lies_none _ _⟩, ⟨fun _ => rfl, HNIL.out, fun _ => rfl⟩, ⟨far_none _, HFAR.out.mono (by omega), far_none _⟩, K2.out⟩
end Go.Proofs.YtoanjhccbmifmaaDoor
