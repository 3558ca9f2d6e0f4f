/- Bodies read from bytes. -/
import Derived.Test.YtoanjhccbmifmaaDoorS5G3
import Derived.Test.YtoanjhccbmifmaaDoorS5W17
namespace Go.Proofs.YtoanjhccbmifmaaDoor
open Go.RowKit
set_option linter.unusedVariables false

/-- What a body's bytes say. -/
def bodyOf (h : HeadZ) (zs : List Int) : LsaZ :=
  if h.kind = 1 then ⟨h, zs.getD 0 0, readL 12 readLZ (zs.drop 4), 0, [], []⟩
  else if h.kind = 2 then ⟨h, 0, [], bitsZ (num4At zs 0), readL 4 readIZ (zs.drop 4), []⟩
  else ⟨h, 0, [], 0, [], readL 8 readVZ zs⟩
/-- The lists lie in new memory. -/
def FarS (N : Nat) (s : Seats) : Prop := Far N s.la ∧ Far N s.ra ∧ Far N s.va
theorem far_none (N : Nat) : Far N none := fun _ h => by cases h
/-- How readBody ends: with an advertisement, or with a fault beside whatever. -/
def BodyOk (w : World) (l : LsaZ) (e : Ending) (w' : World) : Prop := ∃ s', e = .returned (.tuple #[.agg (lsaA s' l), .nilIface]) ∧ Held w' s' l ∧ Nils s' ∧ FarS w.heap.size s' ∧ Below w.heap.size w w'
def BodyBad (w : World) (h : HeadZ) (p : Nat → Addr) (k : Nat) (e : Ending) (w' : World) : Prop := ∃ str, e = .returned (.tuple #[.agg #[.int .i64 h.age, .int .i64 h.kind, .int .i64 h.id, .int .i64 h.adv, .int .i64 h.seq, .int .i64 h.sum, .int .i64 h.len, .int .i64 0, .slice none 0 0, .int .i64 0, .slice none 0 0, .slice none 0 0], faultV str (p k)]) ∧ Below w.heap.size w w'
theorem lies_none (w : World) (a : Option Addr) : Lies w a [] := .inl rfl
set_option maxHeartbeats 3200000 in
set_option maxRecDepth 20000 in
theorem readBody_kind (h : HeadZ) (a : Option Addr) (n cap : Nat) (zs : List Int) (p : Nat → Addr) (w : World) (hn : n = zs.length) (hE : EnvAt w p) (hS : Slice w a cap zs) (h1 : ¬ h.kind = 1) (h2 : ¬ h.kind = 2) (h6 : ¬ h.kind = 6) :
    Calls Tryd.prog 71 #[.agg (headA h), .slice a n cap] w (BodyBad w h p 4) := by
  have e1 : (h.kind == 1) = false := by simp [h1]
  have e2 : (h.kind == 2) = false := by simp [h2]
  have e6 : (h.kind == 6) = false := by simp [h6]
  clear h1 h2 h6 hn
  have HX : Hid (HBox (w.alloc (.cells (headA h) 23)) w.heap.size h) := hbox_new w h
  have HB0 : Below (w.heap.size + 1) (w.alloc (.cells (headA h) 23)) (((w.alloc (.cells (headA h) 23)).alloc (.cells #[.int .i64 0, .int .i64 0, .int .i64 0, .int .i64 0, .int .i64 0, .int .i64 0, .int .i64 0, .int .i64 0, .slice none 0 0, .int .i64 0, .slice none 0 0, .slice none 0 0] 28)).alloc (.cells #[.int .i64 h.age, .int .i64 h.kind, .int .i64 h.id, .int .i64 h.adv, .int .i64 h.seq, .int .i64 h.sum, .int .i64 h.len, .int .i64 0, .slice none 0 0, .int .i64 0, .slice none 0 0, .slice none 0 0] 28)) := ((Below.refl _ _).alloc (by simp) _).alloc (by simp) _
  have HB : Hid (Below w.heap.size w (((w.alloc (.cells (headA h) 23)).alloc (.cells #[.int .i64 0, .int .i64 0, .int .i64 0, .int .i64 0, .int .i64 0, .int .i64 0, .int .i64 0, .int .i64 0, .slice none 0 0, .int .i64 0, .slice none 0 0, .slice none 0 0] 28)).alloc (.cells #[.int .i64 h.age, .int .i64 h.kind, .int .i64 h.id, .int .i64 h.adv, .int .i64 h.seq, .int .i64 h.sum, .int .i64 h.len, .int .i64 0, .slice none 0 0, .int .i64 0, .slice none 0 0, .slice none 0 0] 28))) := ((below_new' _ _).alloc (by simp) _).alloc (by simp; omega) _
  have HR : Hid (Var (((w.alloc (.cells (headA h) 23)).alloc (.cells #[.int .i64 0, .int .i64 0, .int .i64 0, .int .i64 0, .int .i64 0, .int .i64 0, .int .i64 0, .int .i64 0, .slice none 0 0, .int .i64 0, .slice none 0 0, .slice none 0 0] 28)).alloc (.cells #[.int .i64 h.age, .int .i64 h.kind, .int .i64 h.id, .int .i64 h.adv, .int .i64 h.seq, .int .i64 h.sum, .int .i64 h.len, .int .i64 0, .slice none 0 0, .int .i64 0, .slice none 0 0, .slice none 0 0] 28)) (w.heap.size + 1) [.int .i64 0, .int .i64 0, .int .i64 0, .int .i64 0, .int .i64 0, .int .i64 0, .int .i64 0, .int .i64 0, .slice none 0 0, .int .i64 0, .slice none 0 0, .slice none 0 0]) := by
    have h1 := (var_new (w.alloc (.cells (headA h) 23)) [.int .i64 0, .int .i64 0, .int .i64 0, .int .i64 0, .int .i64 0, .int .i64 0, .int .i64 0, .int .i64 0, .slice none 0 0, .int .i64 0, .slice none 0 0, .slice none 0 0] 28).alloc (.cells #[.int .i64 h.age, .int .i64 h.kind, .int .i64 h.id, .int .i64 h.adv, .int .i64 h.seq, .int .i64 h.sum, .int .i64 h.len, .int .i64 0, .slice none 0 0, .int .i64 0, .slice none 0 0, .slice none 0 0] 28)
    rw [size_new] at h1; exact h1
  have HL : Hid (Var (((w.alloc (.cells (headA h) 23)).alloc (.cells #[.int .i64 0, .int .i64 0, .int .i64 0, .int .i64 0, .int .i64 0, .int .i64 0, .int .i64 0, .int .i64 0, .slice none 0 0, .int .i64 0, .slice none 0 0, .slice none 0 0] 28)).alloc (.cells #[.int .i64 h.age, .int .i64 h.kind, .int .i64 h.id, .int .i64 h.adv, .int .i64 h.seq, .int .i64 h.sum, .int .i64 h.len, .int .i64 0, .slice none 0 0, .int .i64 0, .slice none 0 0, .slice none 0 0] 28)) (w.heap.size + 2) [.int .i64 h.age, .int .i64 h.kind, .int .i64 h.id, .int .i64 h.adv, .int .i64 h.seq, .int .i64 h.sum, .int .i64 h.len, .int .i64 0, .slice none 0 0, .int .i64 0, .slice none 0 0, .slice none 0 0]) := by
    have h1 := var_new ((w.alloc (.cells (headA h) 23)).alloc (.cells #[.int .i64 0, .int .i64 0, .int .i64 0, .int .i64 0, .int .i64 0, .int .i64 0, .int .i64 0, .int .i64 0, .slice none 0 0, .int .i64 0, .slice none 0 0, .slice none 0 0] 28)) [.int .i64 h.age, .int .i64 h.kind, .int .i64 h.id, .int .i64 h.adv, .int .i64 h.seq, .int .i64 h.sum, .int .i64 h.len, .int .i64 0, .slice none 0 0, .int .i64 0, .slice none 0 0, .slice none 0 0] 28
    rw [size_new, size_new] at h1; exact h1
  replace HX : Hid (HBox (((w.alloc (.cells (headA h) 23)).alloc (.cells #[.int .i64 0, .int .i64 0, .int .i64 0, .int .i64 0, .int .i64 0, .int .i64 0, .int .i64 0, .int .i64 0, .slice none 0 0, .int .i64 0, .slice none 0 0, .slice none 0 0] 28)).alloc (.cells #[.int .i64 h.age, .int .i64 h.kind, .int .i64 h.id, .int .i64 h.adv, .int .i64 h.seq, .int .i64 h.sum, .int .i64 h.len, .int .i64 0, .slice none 0 0, .int .i64 0, .slice none 0 0, .slice none 0 0] 28)) w.heap.size h) := HX.out.below HB0 (by omega)
  have HE : Hid (EnvAt w p) := hE
  have HS : Hid (Slice w a cap zs) := hS
  clear HB0 hE hS
  go_enter Tryd.func71, Tryd.ntmps71
  go_upto_region 2 with fail
  generalize (((w.alloc (.cells (headA h) 23)).alloc (.cells #[.int .i64 0, .int .i64 0, .int .i64 0, .int .i64 0, .int .i64 0, .int .i64 0, .int .i64 0, .int .i64 0, .slice none 0 0, .int .i64 0, .slice none 0 0, .slice none 0 0] 28)).alloc (.cells #[.int .i64 h.age, .int .i64 h.kind, .int .i64 h.id, .int .i64 h.adv, .int .i64 h.seq, .int .i64 h.sum, .int .i64 h.len, .int .i64 0, .slice none 0 0, .int .i64 0, .slice none 0 0, .slice none 0 0] 28)) = W at *
  obtain ⟨x0, x1, x2, x3, x4, x5, x6⟩ := HX.out
  clear x0 x2 x3 x4 x5 x6
  go_upto_region 3 with fail
  have KS : Hid (∀ X, Var X (w.heap.size + 2) [.int .i64 h.age, .int .i64 h.kind, .int .i64 h.id, .int .i64 h.adv, .int .i64 h.seq, .int .i64 h.sum, .int .i64 h.len, .int .i64 0, .slice none 0 0, .int .i64 0, .slice none 0 0, .slice none 0 0] → Below w.heap.size w X → X.cell? ⟨w.heap.size + 2, 0, none⟩ = some (.int .i64 h.age) ∧ X.cell? ⟨w.heap.size + 2, 1, none⟩ = some (.int .i64 h.kind) ∧ X.cell? ⟨w.heap.size + 2, 2, none⟩ = some (.int .i64 h.id) ∧ X.cell? ⟨w.heap.size + 2, 3, none⟩ = some (.int .i64 h.adv) ∧ X.cell? ⟨w.heap.size + 2, 4, none⟩ = some (.int .i64 h.seq) ∧ X.cell? ⟨w.heap.size + 2, 5, none⟩ = some (.int .i64 h.sum) ∧ X.cell? ⟨w.heap.size + 2, 6, none⟩ = some (.int .i64 h.len) ∧ X.cell? ⟨w.heap.size + 2, 7, none⟩ = some (.int .i64 0) ∧ X.cell? ⟨w.heap.size + 2, 8, none⟩ = some (.slice none 0 0) ∧ X.cell? ⟨w.heap.size + 2, 9, none⟩ = some (.int .i64 0) ∧ X.cell? ⟨w.heap.size + 2, 10, none⟩ = some (.slice none 0 0) ∧ X.cell? ⟨w.heap.size + 2, 11, none⟩ = some (.slice none 0 0) ∧ X.cell? ⟨4, 0, none⟩ = some (.iface 125 (.pointer (some (p 4)))) ∧ Hid (Var X (w.heap.size + 2) [.int .i64 h.age, .int .i64 h.kind, .int .i64 h.id, .int .i64 h.adv, .int .i64 h.seq, .int .i64 h.sum, .int .i64 h.len, .int .i64 0, .slice none 0 0, .int .i64 0, .slice none 0 0, .slice none 0 0] ∧ Below w.heap.size w X)) := fun X hv hb => ⟨hv.cell 0 rfl, hv.cell 1 rfl, hv.cell 2 rfl, hv.cell 3 rfl, hv.cell 4 rfl, hv.cell 5 rfl, hv.cell 6 rfl, hv.cell 7 rfl, hv.cell 8 rfl, hv.cell 9 rfl, hv.cell 10 rfl, hv.cell 11 rfl, (HE.out.below hb (Nat.le_refl _)).var 4 (by decide), hv, hb⟩
  have hne : w.heap.size + 1 ≠ w.heap.size + 2 := by omega
  have K1 : Hid (Var ((((((((((((W.setCell ⟨w.heap.size + 1, 0, none⟩ (.int .i64 h.age)).setCell ⟨w.heap.size + 1, 1, none⟩ (.int .i64 h.kind)).setCell ⟨w.heap.size + 1, 2, none⟩ (.int .i64 h.id)).setCell ⟨w.heap.size + 1, 3, none⟩ (.int .i64 h.adv)).setCell ⟨w.heap.size + 1, 4, none⟩ (.int .i64 h.seq)).setCell ⟨w.heap.size + 1, 5, none⟩ (.int .i64 h.sum)).setCell ⟨w.heap.size + 1, 6, none⟩ (.int .i64 h.len)).setCell ⟨w.heap.size + 1, 7, none⟩ (.int .i64 0)).setCell ⟨w.heap.size + 1, 8, none⟩ (.slice none 0 0)).setCell ⟨w.heap.size + 1, 9, none⟩ (.int .i64 0)).setCell ⟨w.heap.size + 1, 10, none⟩ (.slice none 0 0)).setCell ⟨w.heap.size + 1, 11, none⟩ (.slice none 0 0)) (w.heap.size + 2) [.int .i64 h.age, .int .i64 h.kind, .int .i64 h.id, .int .i64 h.adv, .int .i64 h.seq, .int .i64 h.sum, .int .i64 h.len, .int .i64 0, .slice none 0 0, .int .i64 0, .slice none 0 0, .slice none 0 0]) := HL.out.put12' hne (.int .i64 h.age) (.int .i64 h.kind) (.int .i64 h.id) (.int .i64 h.adv) (.int .i64 h.seq) (.int .i64 h.sum) (.int .i64 h.len) (.int .i64 0) (.slice none 0 0) (.int .i64 0) (.slice none 0 0) (.slice none 0 0)
  have K2 : Hid (Below w.heap.size w ((((((((((((W.setCell ⟨w.heap.size + 1, 0, none⟩ (.int .i64 h.age)).setCell ⟨w.heap.size + 1, 1, none⟩ (.int .i64 h.kind)).setCell ⟨w.heap.size + 1, 2, none⟩ (.int .i64 h.id)).setCell ⟨w.heap.size + 1, 3, none⟩ (.int .i64 h.adv)).setCell ⟨w.heap.size + 1, 4, none⟩ (.int .i64 h.seq)).setCell ⟨w.heap.size + 1, 5, none⟩ (.int .i64 h.sum)).setCell ⟨w.heap.size + 1, 6, none⟩ (.int .i64 h.len)).setCell ⟨w.heap.size + 1, 7, none⟩ (.int .i64 0)).setCell ⟨w.heap.size + 1, 8, none⟩ (.slice none 0 0)).setCell ⟨w.heap.size + 1, 9, none⟩ (.int .i64 0)).setCell ⟨w.heap.size + 1, 10, none⟩ (.slice none 0 0)).setCell ⟨w.heap.size + 1, 11, none⟩ (.slice none 0 0))) := below_put12 HB.out (by omega) (.int .i64 h.age) (.int .i64 h.kind) (.int .i64 h.id) (.int .i64 h.adv) (.int .i64 h.seq) (.int .i64 h.sum) (.int .i64 h.len) (.int .i64 0) (.slice none 0 0) (.int .i64 0) (.slice none 0 0) (.slice none 0 0)
  have K3 : Hid (Var ((((((((((((W.setCell ⟨w.heap.size + 1, 0, none⟩ (.int .i64 h.age)).setCell ⟨w.heap.size + 1, 1, none⟩ (.int .i64 h.kind)).setCell ⟨w.heap.size + 1, 2, none⟩ (.int .i64 h.id)).setCell ⟨w.heap.size + 1, 3, none⟩ (.int .i64 h.adv)).setCell ⟨w.heap.size + 1, 4, none⟩ (.int .i64 h.seq)).setCell ⟨w.heap.size + 1, 5, none⟩ (.int .i64 h.sum)).setCell ⟨w.heap.size + 1, 6, none⟩ (.int .i64 h.len)).setCell ⟨w.heap.size + 1, 7, none⟩ (.int .i64 0)).setCell ⟨w.heap.size + 1, 8, none⟩ (.slice none 0 0)).setCell ⟨w.heap.size + 1, 9, none⟩ (.int .i64 0)).setCell ⟨w.heap.size + 1, 10, none⟩ (.slice none 0 0)).setCell ⟨w.heap.size + 1, 11, none⟩ (.slice none 0 0)) (w.heap.size + 1) [.int .i64 h.age, .int .i64 h.kind, .int .i64 h.id, .int .i64 h.adv, .int .i64 h.seq, .int .i64 h.sum, .int .i64 h.len, .int .i64 0, .slice none 0 0, .int .i64 0, .slice none 0 0, .slice none 0 0]) := HR.out.put12 (.int .i64 h.age) (.int .i64 h.kind) (.int .i64 h.id) (.int .i64 h.adv) (.int .i64 h.seq) (.int .i64 h.sum) (.int .i64 h.len) (.int .i64 0) (.slice none 0 0) (.int .i64 0) (.slice none 0 0) (.slice none 0 0)
  have K4 : Hid (Below w.heap.size w W.drew) := HB.out.drew
  have K5 : Hid (Below w.heap.size w ((((((((((((W.setCell ⟨w.heap.size + 1, 0, none⟩ (.int .i64 h.age)).setCell ⟨w.heap.size + 1, 1, none⟩ (.int .i64 h.kind)).setCell ⟨w.heap.size + 1, 2, none⟩ (.int .i64 h.id)).setCell ⟨w.heap.size + 1, 3, none⟩ (.int .i64 h.adv)).setCell ⟨w.heap.size + 1, 4, none⟩ (.int .i64 h.seq)).setCell ⟨w.heap.size + 1, 5, none⟩ (.int .i64 h.sum)).setCell ⟨w.heap.size + 1, 6, none⟩ (.int .i64 h.len)).setCell ⟨w.heap.size + 1, 7, none⟩ (.int .i64 0)).setCell ⟨w.heap.size + 1, 8, none⟩ (.slice none 0 0)).setCell ⟨w.heap.size + 1, 9, none⟩ (.int .i64 0)).setCell ⟨w.heap.size + 1, 10, none⟩ (.slice none 0 0)).setCell ⟨w.heap.size + 1, 11, none⟩ (.slice none 0 0)).drew) := K2.out.drew
  have r0 := HR.out.cell 0 rfl
  have q0 := HR.out.frozen 0
  have r1 := HR.out.cell 1 rfl
  have q1 := HR.out.frozen 1
  have r2 := HR.out.cell 2 rfl
  have q2 := HR.out.frozen 2
  have r3 := HR.out.cell 3 rfl
  have q3 := HR.out.frozen 3
  have r4 := HR.out.cell 4 rfl
  have q4 := HR.out.frozen 4
  have r5 := HR.out.cell 5 rfl
  have q5 := HR.out.frozen 5
  have r6 := HR.out.cell 6 rfl
  have q6 := HR.out.frozen 6
  have r7 := HR.out.cell 7 rfl
  have q7 := HR.out.frozen 7
  have r8 := HR.out.cell 8 rfl
  have q8 := HR.out.frozen 8
  have r9 := HR.out.cell 9 rfl
  have q9 := HR.out.frozen 9
  have r10 := HR.out.cell 10 rfl
  have q10 := HR.out.frozen 10
  have r11 := HR.out.cell 11 rfl
  have q11 := HR.out.frozen 11
  clear hne
  go_region_held3 (fun X => X.cell? ⟨w.heap.size + 2, 0, none⟩ = some (.int .i64 h.age) ∧ X.cell? ⟨w.heap.size + 2, 1, none⟩ = some (.int .i64 h.kind) ∧ X.cell? ⟨w.heap.size + 2, 2, none⟩ = some (.int .i64 h.id) ∧ X.cell? ⟨w.heap.size + 2, 3, none⟩ = some (.int .i64 h.adv) ∧ X.cell? ⟨w.heap.size + 2, 4, none⟩ = some (.int .i64 h.seq) ∧ X.cell? ⟨w.heap.size + 2, 5, none⟩ = some (.int .i64 h.sum) ∧ X.cell? ⟨w.heap.size + 2, 6, none⟩ = some (.int .i64 h.len) ∧ X.cell? ⟨w.heap.size + 2, 7, none⟩ = some (.int .i64 0) ∧ X.cell? ⟨w.heap.size + 2, 8, none⟩ = some (.slice none 0 0) ∧ X.cell? ⟨w.heap.size + 2, 9, none⟩ = some (.int .i64 0) ∧ X.cell? ⟨w.heap.size + 2, 10, none⟩ = some (.slice none 0 0) ∧ X.cell? ⟨w.heap.size + 2, 11, none⟩ = some (.slice none 0 0) ∧ X.cell? ⟨4, 0, none⟩ = some (.iface 125 (.pointer (some (p 4)))) ∧ Hid (Var X (w.heap.size + 2) [.int .i64 h.age, .int .i64 h.kind, .int .i64 h.id, .int .i64 h.adv, .int .i64 h.seq, .int .i64 h.sum, .int .i64 h.len, .int .i64 0, .slice none 0 0, .int .i64 0, .slice none 0 0, .slice none 0 0] ∧ Below w.heap.size w X)) (with_reducible first | exact KS.out _ HL.out HB.out | exact KS.out _ HL.out.drew K4.out | exact KS.out _ K1.out K2.out | exact KS.out _ K1.out.drew K5.out | fail)
    (first | (go_at_call 56; refine (wrap_any _ _ _ _).mono ?_; rintro e w' ⟨rfl, rfl⟩) | fail)
  rename_i hH
  clear hH KS r0 r1 r2 r3 r4 r5 r6 r7 r8 r9 r10 r11 q0 q1 q2 q3 q4 q5 q6 q7 q8 q9 q10 q11
  replace K3 : Hid (Var ((((((((((((W.setCell ⟨w.heap.size + 1, 0, none⟩ (.int .i64 h.age)).setCell ⟨w.heap.size + 1, 1, none⟩ (.int .i64 h.kind)).setCell ⟨w.heap.size + 1, 2, none⟩ (.int .i64 h.id)).setCell ⟨w.heap.size + 1, 3, none⟩ (.int .i64 h.adv)).setCell ⟨w.heap.size + 1, 4, none⟩ (.int .i64 h.seq)).setCell ⟨w.heap.size + 1, 5, none⟩ (.int .i64 h.sum)).setCell ⟨w.heap.size + 1, 6, none⟩ (.int .i64 h.len)).setCell ⟨w.heap.size + 1, 7, none⟩ (.int .i64 0)).setCell ⟨w.heap.size + 1, 8, none⟩ (.slice none 0 0)).setCell ⟨w.heap.size + 1, 9, none⟩ (.int .i64 0)).setCell ⟨w.heap.size + 1, 10, none⟩ (.slice none 0 0)).setCell ⟨w.heap.size + 1, 11, none⟩ (.slice none 0 0)).drew (w.heap.size + 1) [.int .i64 h.age, .int .i64 h.kind, .int .i64 h.id, .int .i64 h.adv, .int .i64 h.seq, .int .i64 h.sum, .int .i64 h.len, .int .i64 0, .slice none 0 0, .int .i64 0, .slice none 0 0, .slice none 0 0]) := K3.out.drew
  clear K1 K2 K4
  generalize ((((((((((((W.setCell ⟨w.heap.size + 1, 0, none⟩ (.int .i64 h.age)).setCell ⟨w.heap.size + 1, 1, none⟩ (.int .i64 h.kind)).setCell ⟨w.heap.size + 1, 2, none⟩ (.int .i64 h.id)).setCell ⟨w.heap.size + 1, 3, none⟩ (.int .i64 h.adv)).setCell ⟨w.heap.size + 1, 4, none⟩ (.int .i64 h.seq)).setCell ⟨w.heap.size + 1, 5, none⟩ (.int .i64 h.sum)).setCell ⟨w.heap.size + 1, 6, none⟩ (.int .i64 h.len)).setCell ⟨w.heap.size + 1, 7, none⟩ (.int .i64 0)).setCell ⟨w.heap.size + 1, 8, none⟩ (.slice none 0 0)).setCell ⟨w.heap.size + 1, 9, none⟩ (.int .i64 0)).setCell ⟨w.heap.size + 1, 10, none⟩ (.slice none 0 0)).setCell ⟨w.heap.size + 1, 11, none⟩ (.slice none 0 0)).drew = Z at *
  have c0 := K3.out.cell 0 rfl
  have c1 := K3.out.cell 1 rfl
  have c2 := K3.out.cell 2 rfl
  have c3 := K3.out.cell 3 rfl
  have c4 := K3.out.cell 4 rfl
  have c5 := K3.out.cell 5 rfl
  have c6 := K3.out.cell 6 rfl
  have c7 := K3.out.cell 7 rfl
  have c8 := K3.out.cell 8 rfl
  have c9 := K3.out.cell 9 rfl
  have c10 := K3.out.cell 10 rfl
  have c11 := K3.out.cell 11 rfl
  go_wp2
  refine bodyPost_ret (by simp [results, Tryd.results71, go_sem, c0, c1, c2, c3, c4, c5, c6, c7, c8, c9, c10, c11]; try rfl) rfl ?_
  exact ⟨_, rfl, K5.out⟩
set_option maxHeartbeats 3200000 in
set_option maxRecDepth 20000 in
theorem readBody_short1 (h : HeadZ) (a : Option Addr) (n cap : Nat) (zs : List Int) (p : Nat → Addr) (w : World) (hn : n = zs.length) (hE : EnvAt w p) (hS : Slice w a cap zs) (hk : h.kind = 1) (h4 : zs.length < 4) :
    Calls Tryd.prog 71 #[.agg (headA h), .slice a n cap] w (BodyBad w h p 2) := by
  have e1 : (h.kind == 1) = true := by simp [hk]
  have e2 : (h.kind == 2) = false := by simp [hk]
  have h4' : (n : Int) < 4 := by omega
  clear hk hn
  have HX : Hid (HBox (w.alloc (.cells (headA h) 23)) w.heap.size h) := hbox_new w h
  have HB0 : Below (w.heap.size + 1) (w.alloc (.cells (headA h) 23)) (((w.alloc (.cells (headA h) 23)).alloc (.cells #[.int .i64 0, .int .i64 0, .int .i64 0, .int .i64 0, .int .i64 0, .int .i64 0, .int .i64 0, .int .i64 0, .slice none 0 0, .int .i64 0, .slice none 0 0, .slice none 0 0] 28)).alloc (.cells #[.int .i64 h.age, .int .i64 h.kind, .int .i64 h.id, .int .i64 h.adv, .int .i64 h.seq, .int .i64 h.sum, .int .i64 h.len, .int .i64 0, .slice none 0 0, .int .i64 0, .slice none 0 0, .slice none 0 0] 28)) := ((Below.refl _ _).alloc (by simp) _).alloc (by simp) _
  have HB : Hid (Below w.heap.size w (((w.alloc (.cells (headA h) 23)).alloc (.cells #[.int .i64 0, .int .i64 0, .int .i64 0, .int .i64 0, .int .i64 0, .int .i64 0, .int .i64 0, .int .i64 0, .slice none 0 0, .int .i64 0, .slice none 0 0, .slice none 0 0] 28)).alloc (.cells #[.int .i64 h.age, .int .i64 h.kind, .int .i64 h.id, .int .i64 h.adv, .int .i64 h.seq, .int .i64 h.sum, .int .i64 h.len, .int .i64 0, .slice none 0 0, .int .i64 0, .slice none 0 0, .slice none 0 0] 28))) := ((below_new' _ _).alloc (by simp) _).alloc (by simp; omega) _
  have HR : Hid (Var (((w.alloc (.cells (headA h) 23)).alloc (.cells #[.int .i64 0, .int .i64 0, .int .i64 0, .int .i64 0, .int .i64 0, .int .i64 0, .int .i64 0, .int .i64 0, .slice none 0 0, .int .i64 0, .slice none 0 0, .slice none 0 0] 28)).alloc (.cells #[.int .i64 h.age, .int .i64 h.kind, .int .i64 h.id, .int .i64 h.adv, .int .i64 h.seq, .int .i64 h.sum, .int .i64 h.len, .int .i64 0, .slice none 0 0, .int .i64 0, .slice none 0 0, .slice none 0 0] 28)) (w.heap.size + 1) [.int .i64 0, .int .i64 0, .int .i64 0, .int .i64 0, .int .i64 0, .int .i64 0, .int .i64 0, .int .i64 0, .slice none 0 0, .int .i64 0, .slice none 0 0, .slice none 0 0]) := by
    have h1 := (var_new (w.alloc (.cells (headA h) 23)) [.int .i64 0, .int .i64 0, .int .i64 0, .int .i64 0, .int .i64 0, .int .i64 0, .int .i64 0, .int .i64 0, .slice none 0 0, .int .i64 0, .slice none 0 0, .slice none 0 0] 28).alloc (.cells #[.int .i64 h.age, .int .i64 h.kind, .int .i64 h.id, .int .i64 h.adv, .int .i64 h.seq, .int .i64 h.sum, .int .i64 h.len, .int .i64 0, .slice none 0 0, .int .i64 0, .slice none 0 0, .slice none 0 0] 28)
    rw [size_new] at h1; exact h1
  have HL : Hid (Var (((w.alloc (.cells (headA h) 23)).alloc (.cells #[.int .i64 0, .int .i64 0, .int .i64 0, .int .i64 0, .int .i64 0, .int .i64 0, .int .i64 0, .int .i64 0, .slice none 0 0, .int .i64 0, .slice none 0 0, .slice none 0 0] 28)).alloc (.cells #[.int .i64 h.age, .int .i64 h.kind, .int .i64 h.id, .int .i64 h.adv, .int .i64 h.seq, .int .i64 h.sum, .int .i64 h.len, .int .i64 0, .slice none 0 0, .int .i64 0, .slice none 0 0, .slice none 0 0] 28)) (w.heap.size + 2) [.int .i64 h.age, .int .i64 h.kind, .int .i64 h.id, .int .i64 h.adv, .int .i64 h.seq, .int .i64 h.sum, .int .i64 h.len, .int .i64 0, .slice none 0 0, .int .i64 0, .slice none 0 0, .slice none 0 0]) := by
    have h1 := var_new ((w.alloc (.cells (headA h) 23)).alloc (.cells #[.int .i64 0, .int .i64 0, .int .i64 0, .int .i64 0, .int .i64 0, .int .i64 0, .int .i64 0, .int .i64 0, .slice none 0 0, .int .i64 0, .slice none 0 0, .slice none 0 0] 28)) [.int .i64 h.age, .int .i64 h.kind, .int .i64 h.id, .int .i64 h.adv, .int .i64 h.seq, .int .i64 h.sum, .int .i64 h.len, .int .i64 0, .slice none 0 0, .int .i64 0, .slice none 0 0, .slice none 0 0] 28
    rw [size_new, size_new] at h1; exact h1
  replace HX : Hid (HBox (((w.alloc (.cells (headA h) 23)).alloc (.cells #[.int .i64 0, .int .i64 0, .int .i64 0, .int .i64 0, .int .i64 0, .int .i64 0, .int .i64 0, .int .i64 0, .slice none 0 0, .int .i64 0, .slice none 0 0, .slice none 0 0] 28)).alloc (.cells #[.int .i64 h.age, .int .i64 h.kind, .int .i64 h.id, .int .i64 h.adv, .int .i64 h.seq, .int .i64 h.sum, .int .i64 h.len, .int .i64 0, .slice none 0 0, .int .i64 0, .slice none 0 0, .slice none 0 0] 28)) w.heap.size h) := HX.out.below HB0 (by omega)
  have HE : Hid (EnvAt w p) := hE
  have HS : Hid (Slice w a cap zs) := hS
  clear HB0 hE hS
  go_enter Tryd.func71, Tryd.ntmps71
  go_upto_region 2 with fail
  generalize (((w.alloc (.cells (headA h) 23)).alloc (.cells #[.int .i64 0, .int .i64 0, .int .i64 0, .int .i64 0, .int .i64 0, .int .i64 0, .int .i64 0, .int .i64 0, .slice none 0 0, .int .i64 0, .slice none 0 0, .slice none 0 0] 28)).alloc (.cells #[.int .i64 h.age, .int .i64 h.kind, .int .i64 h.id, .int .i64 h.adv, .int .i64 h.seq, .int .i64 h.sum, .int .i64 h.len, .int .i64 0, .slice none 0 0, .int .i64 0, .slice none 0 0, .slice none 0 0] 28)) = W at *
  obtain ⟨x0, x1, x2, x3, x4, x5, x6⟩ := HX.out
  clear x0 x2 x3 x4 x5 x6
  go_upto_region 6 with fail
  have KS : Hid (∀ X, Var X (w.heap.size + 2) [.int .i64 h.age, .int .i64 h.kind, .int .i64 h.id, .int .i64 h.adv, .int .i64 h.seq, .int .i64 h.sum, .int .i64 h.len, .int .i64 0, .slice none 0 0, .int .i64 0, .slice none 0 0, .slice none 0 0] → Below w.heap.size w X → X.cell? ⟨w.heap.size + 2, 0, none⟩ = some (.int .i64 h.age) ∧ X.cell? ⟨w.heap.size + 2, 1, none⟩ = some (.int .i64 h.kind) ∧ X.cell? ⟨w.heap.size + 2, 2, none⟩ = some (.int .i64 h.id) ∧ X.cell? ⟨w.heap.size + 2, 3, none⟩ = some (.int .i64 h.adv) ∧ X.cell? ⟨w.heap.size + 2, 4, none⟩ = some (.int .i64 h.seq) ∧ X.cell? ⟨w.heap.size + 2, 5, none⟩ = some (.int .i64 h.sum) ∧ X.cell? ⟨w.heap.size + 2, 6, none⟩ = some (.int .i64 h.len) ∧ X.cell? ⟨w.heap.size + 2, 7, none⟩ = some (.int .i64 0) ∧ X.cell? ⟨w.heap.size + 2, 8, none⟩ = some (.slice none 0 0) ∧ X.cell? ⟨w.heap.size + 2, 9, none⟩ = some (.int .i64 0) ∧ X.cell? ⟨w.heap.size + 2, 10, none⟩ = some (.slice none 0 0) ∧ X.cell? ⟨w.heap.size + 2, 11, none⟩ = some (.slice none 0 0) ∧ X.cell? ⟨2, 0, none⟩ = some (.iface 125 (.pointer (some (p 2)))) ∧ Hid (Var X (w.heap.size + 2) [.int .i64 h.age, .int .i64 h.kind, .int .i64 h.id, .int .i64 h.adv, .int .i64 h.seq, .int .i64 h.sum, .int .i64 h.len, .int .i64 0, .slice none 0 0, .int .i64 0, .slice none 0 0, .slice none 0 0] ∧ Below w.heap.size w X)) := fun X hv hb => ⟨hv.cell 0 rfl, hv.cell 1 rfl, hv.cell 2 rfl, hv.cell 3 rfl, hv.cell 4 rfl, hv.cell 5 rfl, hv.cell 6 rfl, hv.cell 7 rfl, hv.cell 8 rfl, hv.cell 9 rfl, hv.cell 10 rfl, hv.cell 11 rfl, (HE.out.below hb (Nat.le_refl _)).var 2 (by decide), hv, hb⟩
  have hne : w.heap.size + 1 ≠ w.heap.size + 2 := by omega
  have K1 : Hid (Var ((((((((((((W.setCell ⟨w.heap.size + 1, 0, none⟩ (.int .i64 h.age)).setCell ⟨w.heap.size + 1, 1, none⟩ (.int .i64 h.kind)).setCell ⟨w.heap.size + 1, 2, none⟩ (.int .i64 h.id)).setCell ⟨w.heap.size + 1, 3, none⟩ (.int .i64 h.adv)).setCell ⟨w.heap.size + 1, 4, none⟩ (.int .i64 h.seq)).setCell ⟨w.heap.size + 1, 5, none⟩ (.int .i64 h.sum)).setCell ⟨w.heap.size + 1, 6, none⟩ (.int .i64 h.len)).setCell ⟨w.heap.size + 1, 7, none⟩ (.int .i64 0)).setCell ⟨w.heap.size + 1, 8, none⟩ (.slice none 0 0)).setCell ⟨w.heap.size + 1, 9, none⟩ (.int .i64 0)).setCell ⟨w.heap.size + 1, 10, none⟩ (.slice none 0 0)).setCell ⟨w.heap.size + 1, 11, none⟩ (.slice none 0 0)) (w.heap.size + 2) [.int .i64 h.age, .int .i64 h.kind, .int .i64 h.id, .int .i64 h.adv, .int .i64 h.seq, .int .i64 h.sum, .int .i64 h.len, .int .i64 0, .slice none 0 0, .int .i64 0, .slice none 0 0, .slice none 0 0]) := HL.out.put12' hne (.int .i64 h.age) (.int .i64 h.kind) (.int .i64 h.id) (.int .i64 h.adv) (.int .i64 h.seq) (.int .i64 h.sum) (.int .i64 h.len) (.int .i64 0) (.slice none 0 0) (.int .i64 0) (.slice none 0 0) (.slice none 0 0)
  have K2 : Hid (Below w.heap.size w ((((((((((((W.setCell ⟨w.heap.size + 1, 0, none⟩ (.int .i64 h.age)).setCell ⟨w.heap.size + 1, 1, none⟩ (.int .i64 h.kind)).setCell ⟨w.heap.size + 1, 2, none⟩ (.int .i64 h.id)).setCell ⟨w.heap.size + 1, 3, none⟩ (.int .i64 h.adv)).setCell ⟨w.heap.size + 1, 4, none⟩ (.int .i64 h.seq)).setCell ⟨w.heap.size + 1, 5, none⟩ (.int .i64 h.sum)).setCell ⟨w.heap.size + 1, 6, none⟩ (.int .i64 h.len)).setCell ⟨w.heap.size + 1, 7, none⟩ (.int .i64 0)).setCell ⟨w.heap.size + 1, 8, none⟩ (.slice none 0 0)).setCell ⟨w.heap.size + 1, 9, none⟩ (.int .i64 0)).setCell ⟨w.heap.size + 1, 10, none⟩ (.slice none 0 0)).setCell ⟨w.heap.size + 1, 11, none⟩ (.slice none 0 0))) := below_put12 HB.out (by omega) (.int .i64 h.age) (.int .i64 h.kind) (.int .i64 h.id) (.int .i64 h.adv) (.int .i64 h.seq) (.int .i64 h.sum) (.int .i64 h.len) (.int .i64 0) (.slice none 0 0) (.int .i64 0) (.slice none 0 0) (.slice none 0 0)
  have K3 : Hid (Var ((((((((((((W.setCell ⟨w.heap.size + 1, 0, none⟩ (.int .i64 h.age)).setCell ⟨w.heap.size + 1, 1, none⟩ (.int .i64 h.kind)).setCell ⟨w.heap.size + 1, 2, none⟩ (.int .i64 h.id)).setCell ⟨w.heap.size + 1, 3, none⟩ (.int .i64 h.adv)).setCell ⟨w.heap.size + 1, 4, none⟩ (.int .i64 h.seq)).setCell ⟨w.heap.size + 1, 5, none⟩ (.int .i64 h.sum)).setCell ⟨w.heap.size + 1, 6, none⟩ (.int .i64 h.len)).setCell ⟨w.heap.size + 1, 7, none⟩ (.int .i64 0)).setCell ⟨w.heap.size + 1, 8, none⟩ (.slice none 0 0)).setCell ⟨w.heap.size + 1, 9, none⟩ (.int .i64 0)).setCell ⟨w.heap.size + 1, 10, none⟩ (.slice none 0 0)).setCell ⟨w.heap.size + 1, 11, none⟩ (.slice none 0 0)) (w.heap.size + 1) [.int .i64 h.age, .int .i64 h.kind, .int .i64 h.id, .int .i64 h.adv, .int .i64 h.seq, .int .i64 h.sum, .int .i64 h.len, .int .i64 0, .slice none 0 0, .int .i64 0, .slice none 0 0, .slice none 0 0]) := HR.out.put12 (.int .i64 h.age) (.int .i64 h.kind) (.int .i64 h.id) (.int .i64 h.adv) (.int .i64 h.seq) (.int .i64 h.sum) (.int .i64 h.len) (.int .i64 0) (.slice none 0 0) (.int .i64 0) (.slice none 0 0) (.slice none 0 0)
  have K4 : Hid (Below w.heap.size w W.drew) := HB.out.drew
  have K5 : Hid (Below w.heap.size w ((((((((((((W.setCell ⟨w.heap.size + 1, 0, none⟩ (.int .i64 h.age)).setCell ⟨w.heap.size + 1, 1, none⟩ (.int .i64 h.kind)).setCell ⟨w.heap.size + 1, 2, none⟩ (.int .i64 h.id)).setCell ⟨w.heap.size + 1, 3, none⟩ (.int .i64 h.adv)).setCell ⟨w.heap.size + 1, 4, none⟩ (.int .i64 h.seq)).setCell ⟨w.heap.size + 1, 5, none⟩ (.int .i64 h.sum)).setCell ⟨w.heap.size + 1, 6, none⟩ (.int .i64 h.len)).setCell ⟨w.heap.size + 1, 7, none⟩ (.int .i64 0)).setCell ⟨w.heap.size + 1, 8, none⟩ (.slice none 0 0)).setCell ⟨w.heap.size + 1, 9, none⟩ (.int .i64 0)).setCell ⟨w.heap.size + 1, 10, none⟩ (.slice none 0 0)).setCell ⟨w.heap.size + 1, 11, none⟩ (.slice none 0 0)).drew) := K2.out.drew
  have r0 := HR.out.cell 0 rfl
  have q0 := HR.out.frozen 0
  have r1 := HR.out.cell 1 rfl
  have q1 := HR.out.frozen 1
  have r2 := HR.out.cell 2 rfl
  have q2 := HR.out.frozen 2
  have r3 := HR.out.cell 3 rfl
  have q3 := HR.out.frozen 3
  have r4 := HR.out.cell 4 rfl
  have q4 := HR.out.frozen 4
  have r5 := HR.out.cell 5 rfl
  have q5 := HR.out.frozen 5
  have r6 := HR.out.cell 6 rfl
  have q6 := HR.out.frozen 6
  have r7 := HR.out.cell 7 rfl
  have q7 := HR.out.frozen 7
  have r8 := HR.out.cell 8 rfl
  have q8 := HR.out.frozen 8
  have r9 := HR.out.cell 9 rfl
  have q9 := HR.out.frozen 9
  have r10 := HR.out.cell 10 rfl
  have q10 := HR.out.frozen 10
  have r11 := HR.out.cell 11 rfl
  have q11 := HR.out.frozen 11
  clear hne
  go_region_held3 (fun X => X.cell? ⟨w.heap.size + 2, 0, none⟩ = some (.int .i64 h.age) ∧ X.cell? ⟨w.heap.size + 2, 1, none⟩ = some (.int .i64 h.kind) ∧ X.cell? ⟨w.heap.size + 2, 2, none⟩ = some (.int .i64 h.id) ∧ X.cell? ⟨w.heap.size + 2, 3, none⟩ = some (.int .i64 h.adv) ∧ X.cell? ⟨w.heap.size + 2, 4, none⟩ = some (.int .i64 h.seq) ∧ X.cell? ⟨w.heap.size + 2, 5, none⟩ = some (.int .i64 h.sum) ∧ X.cell? ⟨w.heap.size + 2, 6, none⟩ = some (.int .i64 h.len) ∧ X.cell? ⟨w.heap.size + 2, 7, none⟩ = some (.int .i64 0) ∧ X.cell? ⟨w.heap.size + 2, 8, none⟩ = some (.slice none 0 0) ∧ X.cell? ⟨w.heap.size + 2, 9, none⟩ = some (.int .i64 0) ∧ X.cell? ⟨w.heap.size + 2, 10, none⟩ = some (.slice none 0 0) ∧ X.cell? ⟨w.heap.size + 2, 11, none⟩ = some (.slice none 0 0) ∧ X.cell? ⟨2, 0, none⟩ = some (.iface 125 (.pointer (some (p 2)))) ∧ Hid (Var X (w.heap.size + 2) [.int .i64 h.age, .int .i64 h.kind, .int .i64 h.id, .int .i64 h.adv, .int .i64 h.seq, .int .i64 h.sum, .int .i64 h.len, .int .i64 0, .slice none 0 0, .int .i64 0, .slice none 0 0, .slice none 0 0] ∧ Below w.heap.size w X)) (with_reducible first | exact KS.out _ HL.out HB.out | exact KS.out _ HL.out.drew K4.out | exact KS.out _ K1.out K2.out | exact KS.out _ K1.out.drew K5.out | fail)
    (first | (go_at_call 56; refine (wrap_any _ _ _ _).mono ?_; rintro e w' ⟨rfl, rfl⟩) | fail)
  rename_i hH
  clear hH KS r0 r1 r2 r3 r4 r5 r6 r7 r8 r9 r10 r11 q0 q1 q2 q3 q4 q5 q6 q7 q8 q9 q10 q11
  replace K3 : Hid (Var ((((((((((((W.setCell ⟨w.heap.size + 1, 0, none⟩ (.int .i64 h.age)).setCell ⟨w.heap.size + 1, 1, none⟩ (.int .i64 h.kind)).setCell ⟨w.heap.size + 1, 2, none⟩ (.int .i64 h.id)).setCell ⟨w.heap.size + 1, 3, none⟩ (.int .i64 h.adv)).setCell ⟨w.heap.size + 1, 4, none⟩ (.int .i64 h.seq)).setCell ⟨w.heap.size + 1, 5, none⟩ (.int .i64 h.sum)).setCell ⟨w.heap.size + 1, 6, none⟩ (.int .i64 h.len)).setCell ⟨w.heap.size + 1, 7, none⟩ (.int .i64 0)).setCell ⟨w.heap.size + 1, 8, none⟩ (.slice none 0 0)).setCell ⟨w.heap.size + 1, 9, none⟩ (.int .i64 0)).setCell ⟨w.heap.size + 1, 10, none⟩ (.slice none 0 0)).setCell ⟨w.heap.size + 1, 11, none⟩ (.slice none 0 0)).drew (w.heap.size + 1) [.int .i64 h.age, .int .i64 h.kind, .int .i64 h.id, .int .i64 h.adv, .int .i64 h.seq, .int .i64 h.sum, .int .i64 h.len, .int .i64 0, .slice none 0 0, .int .i64 0, .slice none 0 0, .slice none 0 0]) := K3.out.drew
  clear K1 K2 K4
  generalize ((((((((((((W.setCell ⟨w.heap.size + 1, 0, none⟩ (.int .i64 h.age)).setCell ⟨w.heap.size + 1, 1, none⟩ (.int .i64 h.kind)).setCell ⟨w.heap.size + 1, 2, none⟩ (.int .i64 h.id)).setCell ⟨w.heap.size + 1, 3, none⟩ (.int .i64 h.adv)).setCell ⟨w.heap.size + 1, 4, none⟩ (.int .i64 h.seq)).setCell ⟨w.heap.size + 1, 5, none⟩ (.int .i64 h.sum)).setCell ⟨w.heap.size + 1, 6, none⟩ (.int .i64 h.len)).setCell ⟨w.heap.size + 1, 7, none⟩ (.int .i64 0)).setCell ⟨w.heap.size + 1, 8, none⟩ (.slice none 0 0)).setCell ⟨w.heap.size + 1, 9, none⟩ (.int .i64 0)).setCell ⟨w.heap.size + 1, 10, none⟩ (.slice none 0 0)).setCell ⟨w.heap.size + 1, 11, none⟩ (.slice none 0 0)).drew = Z at *
  have c0 := K3.out.cell 0 rfl
  have c1 := K3.out.cell 1 rfl
  have c2 := K3.out.cell 2 rfl
  have c3 := K3.out.cell 3 rfl
  have c4 := K3.out.cell 4 rfl
  have c5 := K3.out.cell 5 rfl
  have c6 := K3.out.cell 6 rfl
  have c7 := K3.out.cell 7 rfl
  have c8 := K3.out.cell 8 rfl
  have c9 := K3.out.cell 9 rfl
  have c10 := K3.out.cell 10 rfl
  have c11 := K3.out.cell 11 rfl
  go_wp2
  refine bodyPost_ret (by simp [results, Tryd.results71, go_sem, c0, c1, c2, c3, c4, c5, c6, c7, c8, c9, c10, c11]; try rfl) rfl ?_
  exact ⟨_, rfl, K5.out⟩
set_option maxHeartbeats 3200000 in
set_option maxRecDepth 20000 in
theorem readBody_short2 (h : HeadZ) (a : Option Addr) (n cap : Nat) (zs : List Int) (p : Nat → Addr) (w : World) (hn : n = zs.length) (hE : EnvAt w p) (hS : Slice w a cap zs) (hk : h.kind = 2) (h4 : zs.length < 4) :
    Calls Tryd.prog 71 #[.agg (headA h), .slice a n cap] w (BodyBad w h p 2) := by
  have e1 : (h.kind == 1) = false := by simp [hk]
  have e2 : (h.kind == 2) = true := by simp [hk]
  have h4' : (n : Int) < 4 := by omega
  clear hk hn
  have HX : Hid (HBox (w.alloc (.cells (headA h) 23)) w.heap.size h) := hbox_new w h
  have HB0 : Below (w.heap.size + 1) (w.alloc (.cells (headA h) 23)) (((w.alloc (.cells (headA h) 23)).alloc (.cells #[.int .i64 0, .int .i64 0, .int .i64 0, .int .i64 0, .int .i64 0, .int .i64 0, .int .i64 0, .int .i64 0, .slice none 0 0, .int .i64 0, .slice none 0 0, .slice none 0 0] 28)).alloc (.cells #[.int .i64 h.age, .int .i64 h.kind, .int .i64 h.id, .int .i64 h.adv, .int .i64 h.seq, .int .i64 h.sum, .int .i64 h.len, .int .i64 0, .slice none 0 0, .int .i64 0, .slice none 0 0, .slice none 0 0] 28)) := ((Below.refl _ _).alloc (by simp) _).alloc (by simp) _
  have HB : Hid (Below w.heap.size w (((w.alloc (.cells (headA h) 23)).alloc (.cells #[.int .i64 0, .int .i64 0, .int .i64 0, .int .i64 0, .int .i64 0, .int .i64 0, .int .i64 0, .int .i64 0, .slice none 0 0, .int .i64 0, .slice none 0 0, .slice none 0 0] 28)).alloc (.cells #[.int .i64 h.age, .int .i64 h.kind, .int .i64 h.id, .int .i64 h.adv, .int .i64 h.seq, .int .i64 h.sum, .int .i64 h.len, .int .i64 0, .slice none 0 0, .int .i64 0, .slice none 0 0, .slice none 0 0] 28))) := ((below_new' _ _).alloc (by simp) _).alloc (by simp; omega) _
  have HR : Hid (Var (((w.alloc (.cells (headA h) 23)).alloc (.cells #[.int .i64 0, .int .i64 0, .int .i64 0, .int .i64 0, .int .i64 0, .int .i64 0, .int .i64 0, .int .i64 0, .slice none 0 0, .int .i64 0, .slice none 0 0, .slice none 0 0] 28)).alloc (.cells #[.int .i64 h.age, .int .i64 h.kind, .int .i64 h.id, .int .i64 h.adv, .int .i64 h.seq, .int .i64 h.sum, .int .i64 h.len, .int .i64 0, .slice none 0 0, .int .i64 0, .slice none 0 0, .slice none 0 0] 28)) (w.heap.size + 1) [.int .i64 0, .int .i64 0, .int .i64 0, .int .i64 0, .int .i64 0, .int .i64 0, .int .i64 0, .int .i64 0, .slice none 0 0, .int .i64 0, .slice none 0 0, .slice none 0 0]) := by
    have h1 := (var_new (w.alloc (.cells (headA h) 23)) [.int .i64 0, .int .i64 0, .int .i64 0, .int .i64 0, .int .i64 0, .int .i64 0, .int .i64 0, .int .i64 0, .slice none 0 0, .int .i64 0, .slice none 0 0, .slice none 0 0] 28).alloc (.cells #[.int .i64 h.age, .int .i64 h.kind, .int .i64 h.id, .int .i64 h.adv, .int .i64 h.seq, .int .i64 h.sum, .int .i64 h.len, .int .i64 0, .slice none 0 0, .int .i64 0, .slice none 0 0, .slice none 0 0] 28)
    rw [size_new] at h1; exact h1
  have HL : Hid (Var (((w.alloc (.cells (headA h) 23)).alloc (.cells #[.int .i64 0, .int .i64 0, .int .i64 0, .int .i64 0, .int .i64 0, .int .i64 0, .int .i64 0, .int .i64 0, .slice none 0 0, .int .i64 0, .slice none 0 0, .slice none 0 0] 28)).alloc (.cells #[.int .i64 h.age, .int .i64 h.kind, .int .i64 h.id, .int .i64 h.adv, .int .i64 h.seq, .int .i64 h.sum, .int .i64 h.len, .int .i64 0, .slice none 0 0, .int .i64 0, .slice none 0 0, .slice none 0 0] 28)) (w.heap.size + 2) [.int .i64 h.age, .int .i64 h.kind, .int .i64 h.id, .int .i64 h.adv, .int .i64 h.seq, .int .i64 h.sum, .int .i64 h.len, .int .i64 0, .slice none 0 0, .int .i64 0, .slice none 0 0, .slice none 0 0]) := by
    have h1 := var_new ((w.alloc (.cells (headA h) 23)).alloc (.cells #[.int .i64 0, .int .i64 0, .int .i64 0, .int .i64 0, .int .i64 0, .int .i64 0, .int .i64 0, .int .i64 0, .slice none 0 0, .int .i64 0, .slice none 0 0, .slice none 0 0] 28)) [.int .i64 h.age, .int .i64 h.kind, .int .i64 h.id, .int .i64 h.adv, .int .i64 h.seq, .int .i64 h.sum, .int .i64 h.len, .int .i64 0, .slice none 0 0, .int .i64 0, .slice none 0 0, .slice none 0 0] 28
    rw [size_new, size_new] at h1; exact h1
  replace HX : Hid (HBox (((w.alloc (.cells (headA h) 23)).alloc (.cells #[.int .i64 0, .int .i64 0, .int .i64 0, .int .i64 0, .int .i64 0, .int .i64 0, .int .i64 0, .int .i64 0, .slice none 0 0, .int .i64 0, .slice none 0 0, .slice none 0 0] 28)).alloc (.cells #[.int .i64 h.age, .int .i64 h.kind, .int .i64 h.id, .int .i64 h.adv, .int .i64 h.seq, .int .i64 h.sum, .int .i64 h.len, .int .i64 0, .slice none 0 0, .int .i64 0, .slice none 0 0, .slice none 0 0] 28)) w.heap.size h) := HX.out.below HB0 (by omega)
  have HE : Hid (EnvAt w p) := hE
  have HS : Hid (Slice w a cap zs) := hS
  clear HB0 hE hS
  go_enter Tryd.func71, Tryd.ntmps71
  go_upto_region 2 with fail
  generalize (((w.alloc (.cells (headA h) 23)).alloc (.cells #[.int .i64 0, .int .i64 0, .int .i64 0, .int .i64 0, .int .i64 0, .int .i64 0, .int .i64 0, .int .i64 0, .slice none 0 0, .int .i64 0, .slice none 0 0, .slice none 0 0] 28)).alloc (.cells #[.int .i64 h.age, .int .i64 h.kind, .int .i64 h.id, .int .i64 h.adv, .int .i64 h.seq, .int .i64 h.sum, .int .i64 h.len, .int .i64 0, .slice none 0 0, .int .i64 0, .slice none 0 0, .slice none 0 0] 28)) = W at *
  obtain ⟨x0, x1, x2, x3, x4, x5, x6⟩ := HX.out
  clear x0 x2 x3 x4 x5 x6
  go_upto_region 11 with fail
  have KS : Hid (∀ X, Var X (w.heap.size + 2) [.int .i64 h.age, .int .i64 h.kind, .int .i64 h.id, .int .i64 h.adv, .int .i64 h.seq, .int .i64 h.sum, .int .i64 h.len, .int .i64 0, .slice none 0 0, .int .i64 0, .slice none 0 0, .slice none 0 0] → Below w.heap.size w X → X.cell? ⟨w.heap.size + 2, 0, none⟩ = some (.int .i64 h.age) ∧ X.cell? ⟨w.heap.size + 2, 1, none⟩ = some (.int .i64 h.kind) ∧ X.cell? ⟨w.heap.size + 2, 2, none⟩ = some (.int .i64 h.id) ∧ X.cell? ⟨w.heap.size + 2, 3, none⟩ = some (.int .i64 h.adv) ∧ X.cell? ⟨w.heap.size + 2, 4, none⟩ = some (.int .i64 h.seq) ∧ X.cell? ⟨w.heap.size + 2, 5, none⟩ = some (.int .i64 h.sum) ∧ X.cell? ⟨w.heap.size + 2, 6, none⟩ = some (.int .i64 h.len) ∧ X.cell? ⟨w.heap.size + 2, 7, none⟩ = some (.int .i64 0) ∧ X.cell? ⟨w.heap.size + 2, 8, none⟩ = some (.slice none 0 0) ∧ X.cell? ⟨w.heap.size + 2, 9, none⟩ = some (.int .i64 0) ∧ X.cell? ⟨w.heap.size + 2, 10, none⟩ = some (.slice none 0 0) ∧ X.cell? ⟨w.heap.size + 2, 11, none⟩ = some (.slice none 0 0) ∧ X.cell? ⟨2, 0, none⟩ = some (.iface 125 (.pointer (some (p 2)))) ∧ Hid (Var X (w.heap.size + 2) [.int .i64 h.age, .int .i64 h.kind, .int .i64 h.id, .int .i64 h.adv, .int .i64 h.seq, .int .i64 h.sum, .int .i64 h.len, .int .i64 0, .slice none 0 0, .int .i64 0, .slice none 0 0, .slice none 0 0] ∧ Below w.heap.size w X)) := fun X hv hb => ⟨hv.cell 0 rfl, hv.cell 1 rfl, hv.cell 2 rfl, hv.cell 3 rfl, hv.cell 4 rfl, hv.cell 5 rfl, hv.cell 6 rfl, hv.cell 7 rfl, hv.cell 8 rfl, hv.cell 9 rfl, hv.cell 10 rfl, hv.cell 11 rfl, (HE.out.below hb (Nat.le_refl _)).var 2 (by decide), hv, hb⟩
  have hne : w.heap.size + 1 ≠ w.heap.size + 2 := by omega
  have K1 : Hid (Var ((((((((((((W.setCell ⟨w.heap.size + 1, 0, none⟩ (.int .i64 h.age)).setCell ⟨w.heap.size + 1, 1, none⟩ (.int .i64 h.kind)).setCell ⟨w.heap.size + 1, 2, none⟩ (.int .i64 h.id)).setCell ⟨w.heap.size + 1, 3, none⟩ (.int .i64 h.adv)).setCell ⟨w.heap.size + 1, 4, none⟩ (.int .i64 h.seq)).setCell ⟨w.heap.size + 1, 5, none⟩ (.int .i64 h.sum)).setCell ⟨w.heap.size + 1, 6, none⟩ (.int .i64 h.len)).setCell ⟨w.heap.size + 1, 7, none⟩ (.int .i64 0)).setCell ⟨w.heap.size + 1, 8, none⟩ (.slice none 0 0)).setCell ⟨w.heap.size + 1, 9, none⟩ (.int .i64 0)).setCell ⟨w.heap.size + 1, 10, none⟩ (.slice none 0 0)).setCell ⟨w.heap.size + 1, 11, none⟩ (.slice none 0 0)) (w.heap.size + 2) [.int .i64 h.age, .int .i64 h.kind, .int .i64 h.id, .int .i64 h.adv, .int .i64 h.seq, .int .i64 h.sum, .int .i64 h.len, .int .i64 0, .slice none 0 0, .int .i64 0, .slice none 0 0, .slice none 0 0]) := HL.out.put12' hne (.int .i64 h.age) (.int .i64 h.kind) (.int .i64 h.id) (.int .i64 h.adv) (.int .i64 h.seq) (.int .i64 h.sum) (.int .i64 h.len) (.int .i64 0) (.slice none 0 0) (.int .i64 0) (.slice none 0 0) (.slice none 0 0)
  have K2 : Hid (Below w.heap.size w ((((((((((((W.setCell ⟨w.heap.size + 1, 0, none⟩ (.int .i64 h.age)).setCell ⟨w.heap.size + 1, 1, none⟩ (.int .i64 h.kind)).setCell ⟨w.heap.size + 1, 2, none⟩ (.int .i64 h.id)).setCell ⟨w.heap.size + 1, 3, none⟩ (.int .i64 h.adv)).setCell ⟨w.heap.size + 1, 4, none⟩ (.int .i64 h.seq)).setCell ⟨w.heap.size + 1, 5, none⟩ (.int .i64 h.sum)).setCell ⟨w.heap.size + 1, 6, none⟩ (.int .i64 h.len)).setCell ⟨w.heap.size + 1, 7, none⟩ (.int .i64 0)).setCell ⟨w.heap.size + 1, 8, none⟩ (.slice none 0 0)).setCell ⟨w.heap.size + 1, 9, none⟩ (.int .i64 0)).setCell ⟨w.heap.size + 1, 10, none⟩ (.slice none 0 0)).setCell ⟨w.heap.size + 1, 11, none⟩ (.slice none 0 0))) := below_put12 HB.out (by omega) (.int .i64 h.age) (.int .i64 h.kind) (.int .i64 h.id) (.int .i64 h.adv) (.int .i64 h.seq) (.int .i64 h.sum) (.int .i64 h.len) (.int .i64 0) (.slice none 0 0) (.int .i64 0) (.slice none 0 0) (.slice none 0 0)
  have K3 : Hid (Var ((((((((((((W.setCell ⟨w.heap.size + 1, 0, none⟩ (.int .i64 h.age)).setCell ⟨w.heap.size + 1, 1, none⟩ (.int .i64 h.kind)).setCell ⟨w.heap.size + 1, 2, none⟩ (.int .i64 h.id)).setCell ⟨w.heap.size + 1, 3, none⟩ (.int .i64 h.adv)).setCell ⟨w.heap.size + 1, 4, none⟩ (.int .i64 h.seq)).setCell ⟨w.heap.size + 1, 5, none⟩ (.int .i64 h.sum)).setCell ⟨w.heap.size + 1, 6, none⟩ (.int .i64 h.len)).setCell ⟨w.heap.size + 1, 7, none⟩ (.int .i64 0)).setCell ⟨w.heap.size + 1, 8, none⟩ (.slice none 0 0)).setCell ⟨w.heap.size + 1, 9, none⟩ (.int .i64 0)).setCell ⟨w.heap.size + 1, 10, none⟩ (.slice none 0 0)).setCell ⟨w.heap.size + 1, 11, none⟩ (.slice none 0 0)) (w.heap.size + 1) [.int .i64 h.age, .int .i64 h.kind, .int .i64 h.id, .int .i64 h.adv, .int .i64 h.seq, .int .i64 h.sum, .int .i64 h.len, .int .i64 0, .slice none 0 0, .int .i64 0, .slice none 0 0, .slice none 0 0]) := HR.out.put12 (.int .i64 h.age) (.int .i64 h.kind) (.int .i64 h.id) (.int .i64 h.adv) (.int .i64 h.seq) (.int .i64 h.sum) (.int .i64 h.len) (.int .i64 0) (.slice none 0 0) (.int .i64 0) (.slice none 0 0) (.slice none 0 0)
  have K4 : Hid (Below w.heap.size w W.drew) := HB.out.drew
  have K5 : Hid (Below w.heap.size w ((((((((((((W.setCell ⟨w.heap.size + 1, 0, none⟩ (.int .i64 h.age)).setCell ⟨w.heap.size + 1, 1, none⟩ (.int .i64 h.kind)).setCell ⟨w.heap.size + 1, 2, none⟩ (.int .i64 h.id)).setCell ⟨w.heap.size + 1, 3, none⟩ (.int .i64 h.adv)).setCell ⟨w.heap.size + 1, 4, none⟩ (.int .i64 h.seq)).setCell ⟨w.heap.size + 1, 5, none⟩ (.int .i64 h.sum)).setCell ⟨w.heap.size + 1, 6, none⟩ (.int .i64 h.len)).setCell ⟨w.heap.size + 1, 7, none⟩ (.int .i64 0)).setCell ⟨w.heap.size + 1, 8, none⟩ (.slice none 0 0)).setCell ⟨w.heap.size + 1, 9, none⟩ (.int .i64 0)).setCell ⟨w.heap.size + 1, 10, none⟩ (.slice none 0 0)).setCell ⟨w.heap.size + 1, 11, none⟩ (.slice none 0 0)).drew) := K2.out.drew
  have r0 := HR.out.cell 0 rfl
  have q0 := HR.out.frozen 0
  have r1 := HR.out.cell 1 rfl
  have q1 := HR.out.frozen 1
  have r2 := HR.out.cell 2 rfl
  have q2 := HR.out.frozen 2
  have r3 := HR.out.cell 3 rfl
  have q3 := HR.out.frozen 3
  have r4 := HR.out.cell 4 rfl
  have q4 := HR.out.frozen 4
  have r5 := HR.out.cell 5 rfl
  have q5 := HR.out.frozen 5
  have r6 := HR.out.cell 6 rfl
  have q6 := HR.out.frozen 6
  have r7 := HR.out.cell 7 rfl
  have q7 := HR.out.frozen 7
  have r8 := HR.out.cell 8 rfl
  have q8 := HR.out.frozen 8
  have r9 := HR.out.cell 9 rfl
  have q9 := HR.out.frozen 9
  have r10 := HR.out.cell 10 rfl
  have q10 := HR.out.frozen 10
  have r11 := HR.out.cell 11 rfl
  have q11 := HR.out.frozen 11
  clear hne
  go_region_held3 (fun X => X.cell? ⟨w.heap.size + 2, 0, none⟩ = some (.int .i64 h.age) ∧ X.cell? ⟨w.heap.size + 2, 1, none⟩ = some (.int .i64 h.kind) ∧ X.cell? ⟨w.heap.size + 2, 2, none⟩ = some (.int .i64 h.id) ∧ X.cell? ⟨w.heap.size + 2, 3, none⟩ = some (.int .i64 h.adv) ∧ X.cell? ⟨w.heap.size + 2, 4, none⟩ = some (.int .i64 h.seq) ∧ X.cell? ⟨w.heap.size + 2, 5, none⟩ = some (.int .i64 h.sum) ∧ X.cell? ⟨w.heap.size + 2, 6, none⟩ = some (.int .i64 h.len) ∧ X.cell? ⟨w.heap.size + 2, 7, none⟩ = some (.int .i64 0) ∧ X.cell? ⟨w.heap.size + 2, 8, none⟩ = some (.slice none 0 0) ∧ X.cell? ⟨w.heap.size + 2, 9, none⟩ = some (.int .i64 0) ∧ X.cell? ⟨w.heap.size + 2, 10, none⟩ = some (.slice none 0 0) ∧ X.cell? ⟨w.heap.size + 2, 11, none⟩ = some (.slice none 0 0) ∧ X.cell? ⟨2, 0, none⟩ = some (.iface 125 (.pointer (some (p 2)))) ∧ Hid (Var X (w.heap.size + 2) [.int .i64 h.age, .int .i64 h.kind, .int .i64 h.id, .int .i64 h.adv, .int .i64 h.seq, .int .i64 h.sum, .int .i64 h.len, .int .i64 0, .slice none 0 0, .int .i64 0, .slice none 0 0, .slice none 0 0] ∧ Below w.heap.size w X)) (with_reducible first | exact KS.out _ HL.out HB.out | exact KS.out _ HL.out.drew K4.out | exact KS.out _ K1.out K2.out | exact KS.out _ K1.out.drew K5.out | fail)
    (first | (go_at_call 56; refine (wrap_any _ _ _ _).mono ?_; rintro e w' ⟨rfl, rfl⟩) | fail)
  rename_i hH
  clear hH KS r0 r1 r2 r3 r4 r5 r6 r7 r8 r9 r10 r11 q0 q1 q2 q3 q4 q5 q6 q7 q8 q9 q10 q11
  replace K3 : Hid (Var ((((((((((((W.setCell ⟨w.heap.size + 1, 0, none⟩ (.int .i64 h.age)).setCell ⟨w.heap.size + 1, 1, none⟩ (.int .i64 h.kind)).setCell ⟨w.heap.size + 1, 2, none⟩ (.int .i64 h.id)).setCell ⟨w.heap.size + 1, 3, none⟩ (.int .i64 h.adv)).setCell ⟨w.heap.size + 1, 4, none⟩ (.int .i64 h.seq)).setCell ⟨w.heap.size + 1, 5, none⟩ (.int .i64 h.sum)).setCell ⟨w.heap.size + 1, 6, none⟩ (.int .i64 h.len)).setCell ⟨w.heap.size + 1, 7, none⟩ (.int .i64 0)).setCell ⟨w.heap.size + 1, 8, none⟩ (.slice none 0 0)).setCell ⟨w.heap.size + 1, 9, none⟩ (.int .i64 0)).setCell ⟨w.heap.size + 1, 10, none⟩ (.slice none 0 0)).setCell ⟨w.heap.size + 1, 11, none⟩ (.slice none 0 0)).drew (w.heap.size + 1) [.int .i64 h.age, .int .i64 h.kind, .int .i64 h.id, .int .i64 h.adv, .int .i64 h.seq, .int .i64 h.sum, .int .i64 h.len, .int .i64 0, .slice none 0 0, .int .i64 0, .slice none 0 0, .slice none 0 0]) := K3.out.drew
  clear K1 K2 K4
  generalize ((((((((((((W.setCell ⟨w.heap.size + 1, 0, none⟩ (.int .i64 h.age)).setCell ⟨w.heap.size + 1, 1, none⟩ (.int .i64 h.kind)).setCell ⟨w.heap.size + 1, 2, none⟩ (.int .i64 h.id)).setCell ⟨w.heap.size + 1, 3, none⟩ (.int .i64 h.adv)).setCell ⟨w.heap.size + 1, 4, none⟩ (.int .i64 h.seq)).setCell ⟨w.heap.size + 1, 5, none⟩ (.int .i64 h.sum)).setCell ⟨w.heap.size + 1, 6, none⟩ (.int .i64 h.len)).setCell ⟨w.heap.size + 1, 7, none⟩ (.int .i64 0)).setCell ⟨w.heap.size + 1, 8, none⟩ (.slice none 0 0)).setCell ⟨w.heap.size + 1, 9, none⟩ (.int .i64 0)).setCell ⟨w.heap.size + 1, 10, none⟩ (.slice none 0 0)).setCell ⟨w.heap.size + 1, 11, none⟩ (.slice none 0 0)).drew = Z at *
  have c0 := K3.out.cell 0 rfl
  have c1 := K3.out.cell 1 rfl
  have c2 := K3.out.cell 2 rfl
  have c3 := K3.out.cell 3 rfl
  have c4 := K3.out.cell 4 rfl
  have c5 := K3.out.cell 5 rfl
  have c6 := K3.out.cell 6 rfl
  have c7 := K3.out.cell 7 rfl
  have c8 := K3.out.cell 8 rfl
  have c9 := K3.out.cell 9 rfl
  have c10 := K3.out.cell 10 rfl
  have c11 := K3.out.cell 11 rfl
  go_wp2
  refine bodyPost_ret (by simp [results, Tryd.results71, go_sem, c0, c1, c2, c3, c4, c5, c6, c7, c8, c9, c10, c11]; try rfl) rfl ?_
  exact ⟨_, rfl, K5.out⟩
end Go.Proofs.YtoanjhccbmifmaaDoor
