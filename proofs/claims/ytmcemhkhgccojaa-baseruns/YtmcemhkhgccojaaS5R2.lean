/- Which advertisements are right, as the document says it: the whole. -/
import Derived.Test.YtmcemhkhgccojaaS5R1
namespace Go.Proofs.Ytmcemhkhgccojaa
open Go.RowKit

set_option maxHeartbeats 1600000 in
set_option maxRecDepth 20000 in
theorem rr_head (s : Seats) (l : LsaZ) (w : World) (hh : headRB l.head = false) :
    Calls Try.prog 42 #[.agg (lsaA s l)] w fun e w' => e = .returned (.bool (rightLsaB l)) ∧ Below w.heap.size w w' := by
  have HF : Hid (rightLsaB l = false) := right_no fun h => by have := h.head; rw [hh] at this; cases this
  have HX : Hid (Box (w.alloc (.cells (lsaA s l) 39)) w.heap.size s l) := box_new w s l
  have HB : Hid (Below w.heap.size w (w.alloc (.cells (lsaA s l) 39))) := below_new' _ _
  go_enter Try.func42, Try.ntmps42
  go_wp2_with fail
  refine (headRight_any l.head _).mono ?_
  rintro e w1 ⟨rfl, hb⟩
  rw [hh]
  replace HX : Hid (Box w1 w.heap.size s l) := HX.out.below hb HX.out.lt
  replace HB : Hid (Below w.heap.size w w1) := below_more HB.out hb HB.out.size
  clear hb
  obtain ⟨c0, c1, c2, c3, c4, c5, c6, c7, c8, c9, c10, c11⟩ := HX.out
  go_wp2
  go_ret
  exact ⟨ret_bool HF.out.symm, HB.out⟩
set_option maxHeartbeats 1600000 in
set_option maxRecDepth 20000 in
theorem rr_f0 (s : Seats) (l : LsaZ) (w : World) (hf : Fits l) (hh : headRB l.head = true) (hf0 : l.flags < 0) :
    Calls Try.prog 42 #[.agg (lsaA s l)] w fun e w' => e = .returned (.bool (rightLsaB l)) ∧ Below w.heap.size w w' := by
  have HF : Hid (rightLsaB l = false) := right_no (fun h => by have := h.f; omega)
  obtain ⟨z1, z2, z3⟩ := hf
  have HX : Hid (Box (w.alloc (.cells (lsaA s l) 39)) w.heap.size s l) := box_new w s l
  have HB : Hid (Below w.heap.size w (w.alloc (.cells (lsaA s l) 39))) := below_new' _ _
  go_enter Try.func42, Try.ntmps42
  go_wp2_with fail
  refine (headRight_any l.head _).mono ?_
  rintro e w1 ⟨rfl, hb⟩
  rw [hh]
  replace HX : Hid (Box w1 w.heap.size s l) := HX.out.below hb HX.out.lt
  replace HB : Hid (Below w.heap.size w w1) := below_more HB.out hb HB.out.size
  clear hb
  obtain ⟨c0, c1, c2, c3, c4, c5, c6, c7, c8, c9, c10, c11⟩ := HX.out
  go_wp2
  go_ret
  exact ⟨ret_bool HF.out.symm, HB.out⟩
set_option maxHeartbeats 1600000 in
set_option maxRecDepth 20000 in
theorem rr_f1 (s : Seats) (l : LsaZ) (w : World) (hf : Fits l) (hh : headRB l.head = true) (hf0 : ¬ l.flags < 0) (hf1 : 255 < l.flags) :
    Calls Try.prog 42 #[.agg (lsaA s l)] w fun e w' => e = .returned (.bool (rightLsaB l)) ∧ Below w.heap.size w w' := by
  have HF : Hid (rightLsaB l = false) := right_no (fun h => by have := h.f; omega)
  obtain ⟨z1, z2, z3⟩ := hf
  have HX : Hid (Box (w.alloc (.cells (lsaA s l) 39)) w.heap.size s l) := box_new w s l
  have HB : Hid (Below w.heap.size w (w.alloc (.cells (lsaA s l) 39))) := below_new' _ _
  go_enter Try.func42, Try.ntmps42
  go_wp2_with fail
  refine (headRight_any l.head _).mono ?_
  rintro e w1 ⟨rfl, hb⟩
  rw [hh]
  replace HX : Hid (Box w1 w.heap.size s l) := HX.out.below hb HX.out.lt
  replace HB : Hid (Below w.heap.size w w1) := below_more HB.out hb HB.out.size
  clear hb
  obtain ⟨c0, c1, c2, c3, c4, c5, c6, c7, c8, c9, c10, c11⟩ := HX.out
  go_wp2
  go_ret
  exact ⟨ret_bool HF.out.symm, HB.out⟩
set_option maxHeartbeats 1600000 in
set_option maxRecDepth 20000 in
theorem rr_g0 (s : Seats) (l : LsaZ) (w : World) (hf : Fits l) (hh : headRB l.head = true) (hf0 : ¬ l.flags < 0) (hf1 : ¬ 255 < l.flags) (hg0 : 64 < l.links.length) :
    Calls Try.prog 42 #[.agg (lsaA s l)] w fun e w' => e = .returned (.bool (rightLsaB l)) ∧ Below w.heap.size w w' := by
  have HF : Hid (rightLsaB l = false) := right_no (fun h => by have := h.ll; omega)
  obtain ⟨z1, z2, z3⟩ := hf
  have HX : Hid (Box (w.alloc (.cells (lsaA s l) 39)) w.heap.size s l) := box_new w s l
  have HB : Hid (Below w.heap.size w (w.alloc (.cells (lsaA s l) 39))) := below_new' _ _
  go_enter Try.func42, Try.ntmps42
  go_wp2_with fail
  refine (headRight_any l.head _).mono ?_
  rintro e w1 ⟨rfl, hb⟩
  rw [hh]
  replace HX : Hid (Box w1 w.heap.size s l) := HX.out.below hb HX.out.lt
  replace HB : Hid (Below w.heap.size w w1) := below_more HB.out hb HB.out.size
  clear hb
  obtain ⟨c0, c1, c2, c3, c4, c5, c6, c7, c8, c9, c10, c11⟩ := HX.out
  go_wp2
  go_ret
  exact ⟨ret_bool HF.out.symm, HB.out⟩
set_option maxHeartbeats 1600000 in
set_option maxRecDepth 20000 in
theorem rr_b0 (s : Seats) (l : LsaZ) (w : World) (hf : Fits l) (hh : headRB l.head = true) (hf0 : ¬ l.flags < 0) (hf1 : ¬ 255 < l.flags) (hg0 : ¬ 64 < l.links.length) (hb0 : l.bits < 0) :
    Calls Try.prog 42 #[.agg (lsaA s l)] w fun e w' => e = .returned (.bool (rightLsaB l)) ∧ Below w.heap.size w w' := by
  have HF : Hid (rightLsaB l = false) := right_no (fun h => by have := h.b; omega)
  obtain ⟨z1, z2, z3⟩ := hf
  have HX : Hid (Box (w.alloc (.cells (lsaA s l) 39)) w.heap.size s l) := box_new w s l
  have HB : Hid (Below w.heap.size w (w.alloc (.cells (lsaA s l) 39))) := below_new' _ _
  go_enter Try.func42, Try.ntmps42
  go_wp2_with fail
  refine (headRight_any l.head _).mono ?_
  rintro e w1 ⟨rfl, hb⟩
  rw [hh]
  replace HX : Hid (Box w1 w.heap.size s l) := HX.out.below hb HX.out.lt
  replace HB : Hid (Below w.heap.size w w1) := below_more HB.out hb HB.out.size
  clear hb
  obtain ⟨c0, c1, c2, c3, c4, c5, c6, c7, c8, c9, c10, c11⟩ := HX.out
  go_wp2
  go_ret
  exact ⟨ret_bool HF.out.symm, HB.out⟩
set_option maxHeartbeats 1600000 in
set_option maxRecDepth 20000 in
theorem rr_b1 (s : Seats) (l : LsaZ) (w : World) (hf : Fits l) (hh : headRB l.head = true) (hf0 : ¬ l.flags < 0) (hf1 : ¬ 255 < l.flags) (hg0 : ¬ 64 < l.links.length) (hb0 : ¬ l.bits < 0) (hb1 : 32 < l.bits) :
    Calls Try.prog 42 #[.agg (lsaA s l)] w fun e w' => e = .returned (.bool (rightLsaB l)) ∧ Below w.heap.size w w' := by
  have HF : Hid (rightLsaB l = false) := right_no (fun h => by have := h.b; omega)
  obtain ⟨z1, z2, z3⟩ := hf
  have HX : Hid (Box (w.alloc (.cells (lsaA s l) 39)) w.heap.size s l) := box_new w s l
  have HB : Hid (Below w.heap.size w (w.alloc (.cells (lsaA s l) 39))) := below_new' _ _
  go_enter Try.func42, Try.ntmps42
  go_wp2_with fail
  refine (headRight_any l.head _).mono ?_
  rintro e w1 ⟨rfl, hb⟩
  rw [hh]
  replace HX : Hid (Box w1 w.heap.size s l) := HX.out.below hb HX.out.lt
  replace HB : Hid (Below w.heap.size w w1) := below_more HB.out hb HB.out.size
  clear hb
  obtain ⟨c0, c1, c2, c3, c4, c5, c6, c7, c8, c9, c10, c11⟩ := HX.out
  go_wp2
  go_ret
  exact ⟨ret_bool HF.out.symm, HB.out⟩
set_option maxHeartbeats 1600000 in
set_option maxRecDepth 20000 in
theorem rr_g1 (s : Seats) (l : LsaZ) (w : World) (hf : Fits l) (hh : headRB l.head = true) (hf0 : ¬ l.flags < 0) (hf1 : ¬ 255 < l.flags) (hg0 : ¬ 64 < l.links.length) (hb0 : ¬ l.bits < 0) (hb1 : ¬ 32 < l.bits) (hg1 : 64 < l.routers.length) :
    Calls Try.prog 42 #[.agg (lsaA s l)] w fun e w' => e = .returned (.bool (rightLsaB l)) ∧ Below w.heap.size w w' := by
  have HF : Hid (rightLsaB l = false) := right_no (fun h => by have := h.rl; omega)
  obtain ⟨z1, z2, z3⟩ := hf
  have HX : Hid (Box (w.alloc (.cells (lsaA s l) 39)) w.heap.size s l) := box_new w s l
  have HB : Hid (Below w.heap.size w (w.alloc (.cells (lsaA s l) 39))) := below_new' _ _
  go_enter Try.func42, Try.ntmps42
  go_wp2_with fail
  refine (headRight_any l.head _).mono ?_
  rintro e w1 ⟨rfl, hb⟩
  rw [hh]
  replace HX : Hid (Box w1 w.heap.size s l) := HX.out.below hb HX.out.lt
  replace HB : Hid (Below w.heap.size w w1) := below_more HB.out hb HB.out.size
  clear hb
  obtain ⟨c0, c1, c2, c3, c4, c5, c6, c7, c8, c9, c10, c11⟩ := HX.out
  go_wp2
  go_ret
  exact ⟨ret_bool HF.out.symm, HB.out⟩
set_option maxHeartbeats 1600000 in
set_option maxRecDepth 20000 in
theorem rr_g2 (s : Seats) (l : LsaZ) (w : World) (hf : Fits l) (hh : headRB l.head = true) (hf0 : ¬ l.flags < 0) (hf1 : ¬ 255 < l.flags) (hg0 : ¬ 64 < l.links.length) (hb0 : ¬ l.bits < 0) (hb1 : ¬ 32 < l.bits) (hg1 : ¬ 64 < l.routers.length) (hg2 : 64 < l.verts.length) :
    Calls Try.prog 42 #[.agg (lsaA s l)] w fun e w' => e = .returned (.bool (rightLsaB l)) ∧ Below w.heap.size w w' := by
  have HF : Hid (rightLsaB l = false) := right_no (fun h => by have := h.vl; omega)
  obtain ⟨z1, z2, z3⟩ := hf
  have HX : Hid (Box (w.alloc (.cells (lsaA s l) 39)) w.heap.size s l) := box_new w s l
  have HB : Hid (Below w.heap.size w (w.alloc (.cells (lsaA s l) 39))) := below_new' _ _
  go_enter Try.func42, Try.ntmps42
  go_wp2_with fail
  refine (headRight_any l.head _).mono ?_
  rintro e w1 ⟨rfl, hb⟩
  rw [hh]
  replace HX : Hid (Box w1 w.heap.size s l) := HX.out.below hb HX.out.lt
  replace HB : Hid (Below w.heap.size w w1) := below_more HB.out hb HB.out.size
  clear hb
  obtain ⟨c0, c1, c2, c3, c4, c5, c6, c7, c8, c9, c10, c11⟩ := HX.out
  go_wp2
  go_ret
  exact ⟨ret_bool HF.out.symm, HB.out⟩
set_option maxHeartbeats 1600000 in
set_option maxRecDepth 20000 in
theorem rr_k1_v2 (s : Seats) (l : LsaZ) (w : World) (hf : Fits l) (hh : headRB l.head = true) (hk : l.head.kind = 1) (hf0 : ¬ l.flags < 0) (hf1 : ¬ 255 < l.flags) (hg0 : ¬ 64 < l.links.length) (hb0 : ¬ l.bits < 0) (hb1 : ¬ 32 < l.bits) (hg1 : ¬ 64 < l.routers.length) (hg2 : ¬ 64 < l.verts.length) (hv2 : l.bits ≠ 0) :
    Calls Try.prog 42 #[.agg (lsaA s l)] w fun e w' => e = .returned (.bool (rightLsaB l)) ∧ Below w.heap.size w w' := by
  have HF : Hid (rightLsaB l = false) := right_no (fun h => by have := h.n2 (by omega); omega)
  obtain ⟨z1, z2, z3⟩ := hf
  have e1 : (l.head.kind == 1) = true := by simp [hk]
  have m1 : (l.head.kind != 1) = false := by simp [hk]
  have e2 : (l.head.kind == 2) = false := by simp [hk]
  have m2 : (l.head.kind != 2) = true := by simp [hk]
  have e6 : (l.head.kind == 6) = false := by simp [hk]
  have m6 : (l.head.kind != 6) = true := by simp [hk]
  have tv2 : (l.bits != 0) = true := by simp; omega
  clear hk hv2
  have HX : Hid (Box (w.alloc (.cells (lsaA s l) 39)) w.heap.size s l) := box_new w s l
  have HB : Hid (Below w.heap.size w (w.alloc (.cells (lsaA s l) 39))) := below_new' _ _
  go_enter Try.func42, Try.ntmps42
  go_wp2_with fail
  refine (headRight_any l.head _).mono ?_
  rintro e w1 ⟨rfl, hb⟩
  rw [hh]
  replace HX : Hid (Box w1 w.heap.size s l) := HX.out.below hb HX.out.lt
  replace HB : Hid (Below w.heap.size w w1) := below_more HB.out hb HB.out.size
  clear hb
  obtain ⟨c0, c1, c2, c3, c4, c5, c6, c7, c8, c9, c10, c11⟩ := HX.out
  go_wp2
  go_ret
  exact ⟨ret_bool HF.out.symm, HB.out⟩
set_option maxHeartbeats 1600000 in
set_option maxRecDepth 20000 in
theorem rr_k1_l2 (s : Seats) (l : LsaZ) (w : World) (hf : Fits l) (hh : headRB l.head = true) (hk : l.head.kind = 1) (hf0 : ¬ l.flags < 0) (hf1 : ¬ 255 < l.flags) (hg0 : ¬ 64 < l.links.length) (hb0 : ¬ l.bits < 0) (hb1 : ¬ 32 < l.bits) (hg1 : ¬ 64 < l.routers.length) (hg2 : ¬ 64 < l.verts.length) (hv2 : ¬ (l.bits ≠ 0)) (hl2 : 0 < l.routers.length) :
    Calls Try.prog 42 #[.agg (lsaA s l)] w fun e w' => e = .returned (.bool (rightLsaB l)) ∧ Below w.heap.size w w' := by
  have HF : Hid (rightLsaB l = false) := right_no (fun h => by have := h.n2 (by omega); omega)
  obtain ⟨z1, z2, z3⟩ := hf
  have e1 : (l.head.kind == 1) = true := by simp [hk]
  have m1 : (l.head.kind != 1) = false := by simp [hk]
  have e2 : (l.head.kind == 2) = false := by simp [hk]
  have m2 : (l.head.kind != 2) = true := by simp [hk]
  have e6 : (l.head.kind == 6) = false := by simp [hk]
  have m6 : (l.head.kind != 6) = true := by simp [hk]
  have tv2 : (l.bits != 0) = false := by simp; omega
  clear hk hv2
  have HX : Hid (Box (w.alloc (.cells (lsaA s l) 39)) w.heap.size s l) := box_new w s l
  have HB : Hid (Below w.heap.size w (w.alloc (.cells (lsaA s l) 39))) := below_new' _ _
  go_enter Try.func42, Try.ntmps42
  go_wp2_with fail
  refine (headRight_any l.head _).mono ?_
  rintro e w1 ⟨rfl, hb⟩
  rw [hh]
  replace HX : Hid (Box w1 w.heap.size s l) := HX.out.below hb HX.out.lt
  replace HB : Hid (Below w.heap.size w w1) := below_more HB.out hb HB.out.size
  clear hb
  obtain ⟨c0, c1, c2, c3, c4, c5, c6, c7, c8, c9, c10, c11⟩ := HX.out
  go_wp2
  go_ret
  exact ⟨ret_bool HF.out.symm, HB.out⟩
set_option maxHeartbeats 1600000 in
set_option maxRecDepth 20000 in
theorem rr_k1_l6 (s : Seats) (l : LsaZ) (w : World) (hf : Fits l) (hh : headRB l.head = true) (hk : l.head.kind = 1) (hf0 : ¬ l.flags < 0) (hf1 : ¬ 255 < l.flags) (hg0 : ¬ 64 < l.links.length) (hb0 : ¬ l.bits < 0) (hb1 : ¬ 32 < l.bits) (hg1 : ¬ 64 < l.routers.length) (hg2 : ¬ 64 < l.verts.length) (hv2 : ¬ (l.bits ≠ 0)) (hl2 : ¬ (0 < l.routers.length)) (hl6 : 0 < l.verts.length) :
    Calls Try.prog 42 #[.agg (lsaA s l)] w fun e w' => e = .returned (.bool (rightLsaB l)) ∧ Below w.heap.size w w' := by
  have HF : Hid (rightLsaB l = false) := right_no (fun h => by have := h.n6 (by omega); omega)
  obtain ⟨z1, z2, z3⟩ := hf
  have e1 : (l.head.kind == 1) = true := by simp [hk]
  have m1 : (l.head.kind != 1) = false := by simp [hk]
  have e2 : (l.head.kind == 2) = false := by simp [hk]
  have m2 : (l.head.kind != 2) = true := by simp [hk]
  have e6 : (l.head.kind == 6) = false := by simp [hk]
  have m6 : (l.head.kind != 6) = true := by simp [hk]
  have tv2 : (l.bits != 0) = false := by simp; omega
  clear hk hv2
  have HX : Hid (Box (w.alloc (.cells (lsaA s l) 39)) w.heap.size s l) := box_new w s l
  have HB : Hid (Below w.heap.size w (w.alloc (.cells (lsaA s l) 39))) := below_new' _ _
  go_enter Try.func42, Try.ntmps42
  go_wp2_with fail
  refine (headRight_any l.head _).mono ?_
  rintro e w1 ⟨rfl, hb⟩
  rw [hh]
  replace HX : Hid (Box w1 w.heap.size s l) := HX.out.below hb HX.out.lt
  replace HB : Hid (Below w.heap.size w w1) := below_more HB.out hb HB.out.size
  clear hb
  obtain ⟨c0, c1, c2, c3, c4, c5, c6, c7, c8, c9, c10, c11⟩ := HX.out
  go_wp2
  go_ret
  exact ⟨ret_bool HF.out.symm, HB.out⟩
set_option maxHeartbeats 1600000 in
set_option maxRecDepth 20000 in
theorem rr_k2_v1 (s : Seats) (l : LsaZ) (w : World) (hf : Fits l) (hh : headRB l.head = true) (hk : l.head.kind = 2) (hf0 : ¬ l.flags < 0) (hf1 : ¬ 255 < l.flags) (hg0 : ¬ 64 < l.links.length) (hb0 : ¬ l.bits < 0) (hb1 : ¬ 32 < l.bits) (hg1 : ¬ 64 < l.routers.length) (hg2 : ¬ 64 < l.verts.length) (hv1 : l.flags ≠ 0) :
    Calls Try.prog 42 #[.agg (lsaA s l)] w fun e w' => e = .returned (.bool (rightLsaB l)) ∧ Below w.heap.size w w' := by
  have HF : Hid (rightLsaB l = false) := right_no (fun h => by have := h.n1 (by omega); omega)
  obtain ⟨z1, z2, z3⟩ := hf
  have e1 : (l.head.kind == 1) = false := by simp [hk]
  have m1 : (l.head.kind != 1) = true := by simp [hk]
  have e2 : (l.head.kind == 2) = true := by simp [hk]
  have m2 : (l.head.kind != 2) = false := by simp [hk]
  have e6 : (l.head.kind == 6) = false := by simp [hk]
  have m6 : (l.head.kind != 6) = true := by simp [hk]
  have tv1 : (l.flags != 0) = true := by simp; omega
  clear hk hv1
  have HX : Hid (Box (w.alloc (.cells (lsaA s l) 39)) w.heap.size s l) := box_new w s l
  have HB : Hid (Below w.heap.size w (w.alloc (.cells (lsaA s l) 39))) := below_new' _ _
  go_enter Try.func42, Try.ntmps42
  go_wp2_with fail
  refine (headRight_any l.head _).mono ?_
  rintro e w1 ⟨rfl, hb⟩
  rw [hh]
  replace HX : Hid (Box w1 w.heap.size s l) := HX.out.below hb HX.out.lt
  replace HB : Hid (Below w.heap.size w w1) := below_more HB.out hb HB.out.size
  clear hb
  obtain ⟨c0, c1, c2, c3, c4, c5, c6, c7, c8, c9, c10, c11⟩ := HX.out
  go_wp2
  go_ret
  exact ⟨ret_bool HF.out.symm, HB.out⟩
set_option maxHeartbeats 1600000 in
set_option maxRecDepth 20000 in
theorem rr_k2_l1 (s : Seats) (l : LsaZ) (w : World) (hf : Fits l) (hh : headRB l.head = true) (hk : l.head.kind = 2) (hf0 : ¬ l.flags < 0) (hf1 : ¬ 255 < l.flags) (hg0 : ¬ 64 < l.links.length) (hb0 : ¬ l.bits < 0) (hb1 : ¬ 32 < l.bits) (hg1 : ¬ 64 < l.routers.length) (hg2 : ¬ 64 < l.verts.length) (hv1 : ¬ (l.flags ≠ 0)) (hl1 : 0 < l.links.length) :
    Calls Try.prog 42 #[.agg (lsaA s l)] w fun e w' => e = .returned (.bool (rightLsaB l)) ∧ Below w.heap.size w w' := by
  have HF : Hid (rightLsaB l = false) := right_no (fun h => by have := h.n1 (by omega); omega)
  obtain ⟨z1, z2, z3⟩ := hf
  have e1 : (l.head.kind == 1) = false := by simp [hk]
  have m1 : (l.head.kind != 1) = true := by simp [hk]
  have e2 : (l.head.kind == 2) = true := by simp [hk]
  have m2 : (l.head.kind != 2) = false := by simp [hk]
  have e6 : (l.head.kind == 6) = false := by simp [hk]
  have m6 : (l.head.kind != 6) = true := by simp [hk]
  have tv1 : (l.flags != 0) = false := by simp; omega
  clear hk hv1
  have HX : Hid (Box (w.alloc (.cells (lsaA s l) 39)) w.heap.size s l) := box_new w s l
  have HB : Hid (Below w.heap.size w (w.alloc (.cells (lsaA s l) 39))) := below_new' _ _
  go_enter Try.func42, Try.ntmps42
  go_wp2_with fail
  refine (headRight_any l.head _).mono ?_
  rintro e w1 ⟨rfl, hb⟩
  rw [hh]
  replace HX : Hid (Box w1 w.heap.size s l) := HX.out.below hb HX.out.lt
  replace HB : Hid (Below w.heap.size w w1) := below_more HB.out hb HB.out.size
  clear hb
  obtain ⟨c0, c1, c2, c3, c4, c5, c6, c7, c8, c9, c10, c11⟩ := HX.out
  go_wp2
  go_ret
  exact ⟨ret_bool HF.out.symm, HB.out⟩
set_option maxHeartbeats 1600000 in
set_option maxRecDepth 20000 in
theorem rr_k2_l6 (s : Seats) (l : LsaZ) (w : World) (hf : Fits l) (hh : headRB l.head = true) (hk : l.head.kind = 2) (hf0 : ¬ l.flags < 0) (hf1 : ¬ 255 < l.flags) (hg0 : ¬ 64 < l.links.length) (hb0 : ¬ l.bits < 0) (hb1 : ¬ 32 < l.bits) (hg1 : ¬ 64 < l.routers.length) (hg2 : ¬ 64 < l.verts.length) (hv1 : ¬ (l.flags ≠ 0)) (hl1 : ¬ (0 < l.links.length)) (hl6 : 0 < l.verts.length) :
    Calls Try.prog 42 #[.agg (lsaA s l)] w fun e w' => e = .returned (.bool (rightLsaB l)) ∧ Below w.heap.size w w' := by
  have HF : Hid (rightLsaB l = false) := right_no (fun h => by have := h.n6 (by omega); omega)
  obtain ⟨z1, z2, z3⟩ := hf
  have e1 : (l.head.kind == 1) = false := by simp [hk]
  have m1 : (l.head.kind != 1) = true := by simp [hk]
  have e2 : (l.head.kind == 2) = true := by simp [hk]
  have m2 : (l.head.kind != 2) = false := by simp [hk]
  have e6 : (l.head.kind == 6) = false := by simp [hk]
  have m6 : (l.head.kind != 6) = true := by simp [hk]
  have tv1 : (l.flags != 0) = false := by simp; omega
  clear hk hv1
  have HX : Hid (Box (w.alloc (.cells (lsaA s l) 39)) w.heap.size s l) := box_new w s l
  have HB : Hid (Below w.heap.size w (w.alloc (.cells (lsaA s l) 39))) := below_new' _ _
  go_enter Try.func42, Try.ntmps42
  go_wp2_with fail
  refine (headRight_any l.head _).mono ?_
  rintro e w1 ⟨rfl, hb⟩
  rw [hh]
  replace HX : Hid (Box w1 w.heap.size s l) := HX.out.below hb HX.out.lt
  replace HB : Hid (Below w.heap.size w w1) := below_more HB.out hb HB.out.size
  clear hb
  obtain ⟨c0, c1, c2, c3, c4, c5, c6, c7, c8, c9, c10, c11⟩ := HX.out
  go_wp2
  go_ret
  exact ⟨ret_bool HF.out.symm, HB.out⟩
set_option maxHeartbeats 1600000 in
set_option maxRecDepth 20000 in
theorem rr_k6_v1 (s : Seats) (l : LsaZ) (w : World) (hf : Fits l) (hh : headRB l.head = true) (hk : l.head.kind = 6) (hf0 : ¬ l.flags < 0) (hf1 : ¬ 255 < l.flags) (hg0 : ¬ 64 < l.links.length) (hb0 : ¬ l.bits < 0) (hb1 : ¬ 32 < l.bits) (hg1 : ¬ 64 < l.routers.length) (hg2 : ¬ 64 < l.verts.length) (hv1 : l.flags ≠ 0) :
    Calls Try.prog 42 #[.agg (lsaA s l)] w fun e w' => e = .returned (.bool (rightLsaB l)) ∧ Below w.heap.size w w' := by
  have HF : Hid (rightLsaB l = false) := right_no (fun h => by have := h.n1 (by omega); omega)
  obtain ⟨z1, z2, z3⟩ := hf
  have e1 : (l.head.kind == 1) = false := by simp [hk]
  have m1 : (l.head.kind != 1) = true := by simp [hk]
  have e2 : (l.head.kind == 2) = false := by simp [hk]
  have m2 : (l.head.kind != 2) = true := by simp [hk]
  have e6 : (l.head.kind == 6) = true := by simp [hk]
  have m6 : (l.head.kind != 6) = false := by simp [hk]
  have tv1 : (l.flags != 0) = true := by simp; omega
  clear hk hv1
  have HX : Hid (Box (w.alloc (.cells (lsaA s l) 39)) w.heap.size s l) := box_new w s l
  have HB : Hid (Below w.heap.size w (w.alloc (.cells (lsaA s l) 39))) := below_new' _ _
  go_enter Try.func42, Try.ntmps42
  go_wp2_with fail
  refine (headRight_any l.head _).mono ?_
  rintro e w1 ⟨rfl, hb⟩
  rw [hh]
  replace HX : Hid (Box w1 w.heap.size s l) := HX.out.below hb HX.out.lt
  replace HB : Hid (Below w.heap.size w w1) := below_more HB.out hb HB.out.size
  clear hb
  obtain ⟨c0, c1, c2, c3, c4, c5, c6, c7, c8, c9, c10, c11⟩ := HX.out
  go_wp2
  go_ret
  exact ⟨ret_bool HF.out.symm, HB.out⟩
set_option maxHeartbeats 1600000 in
set_option maxRecDepth 20000 in
theorem rr_k6_l1 (s : Seats) (l : LsaZ) (w : World) (hf : Fits l) (hh : headRB l.head = true) (hk : l.head.kind = 6) (hf0 : ¬ l.flags < 0) (hf1 : ¬ 255 < l.flags) (hg0 : ¬ 64 < l.links.length) (hb0 : ¬ l.bits < 0) (hb1 : ¬ 32 < l.bits) (hg1 : ¬ 64 < l.routers.length) (hg2 : ¬ 64 < l.verts.length) (hv1 : ¬ (l.flags ≠ 0)) (hl1 : 0 < l.links.length) :
    Calls Try.prog 42 #[.agg (lsaA s l)] w fun e w' => e = .returned (.bool (rightLsaB l)) ∧ Below w.heap.size w w' := by
  have HF : Hid (rightLsaB l = false) := right_no (fun h => by have := h.n1 (by omega); omega)
  obtain ⟨z1, z2, z3⟩ := hf
  have e1 : (l.head.kind == 1) = false := by simp [hk]
  have m1 : (l.head.kind != 1) = true := by simp [hk]
  have e2 : (l.head.kind == 2) = false := by simp [hk]
  have m2 : (l.head.kind != 2) = true := by simp [hk]
  have e6 : (l.head.kind == 6) = true := by simp [hk]
  have m6 : (l.head.kind != 6) = false := by simp [hk]
  have tv1 : (l.flags != 0) = false := by simp; omega
  clear hk hv1
  have HX : Hid (Box (w.alloc (.cells (lsaA s l) 39)) w.heap.size s l) := box_new w s l
  have HB : Hid (Below w.heap.size w (w.alloc (.cells (lsaA s l) 39))) := below_new' _ _
  go_enter Try.func42, Try.ntmps42
  go_wp2_with fail
  refine (headRight_any l.head _).mono ?_
  rintro e w1 ⟨rfl, hb⟩
  rw [hh]
  replace HX : Hid (Box w1 w.heap.size s l) := HX.out.below hb HX.out.lt
  replace HB : Hid (Below w.heap.size w w1) := below_more HB.out hb HB.out.size
  clear hb
  obtain ⟨c0, c1, c2, c3, c4, c5, c6, c7, c8, c9, c10, c11⟩ := HX.out
  go_wp2
  go_ret
  exact ⟨ret_bool HF.out.symm, HB.out⟩
set_option maxHeartbeats 1600000 in
set_option maxRecDepth 20000 in
theorem rr_k6_v2 (s : Seats) (l : LsaZ) (w : World) (hf : Fits l) (hh : headRB l.head = true) (hk : l.head.kind = 6) (hf0 : ¬ l.flags < 0) (hf1 : ¬ 255 < l.flags) (hg0 : ¬ 64 < l.links.length) (hb0 : ¬ l.bits < 0) (hb1 : ¬ 32 < l.bits) (hg1 : ¬ 64 < l.routers.length) (hg2 : ¬ 64 < l.verts.length) (hv1 : ¬ (l.flags ≠ 0)) (hl1 : ¬ (0 < l.links.length)) (hv2 : l.bits ≠ 0) :
    Calls Try.prog 42 #[.agg (lsaA s l)] w fun e w' => e = .returned (.bool (rightLsaB l)) ∧ Below w.heap.size w w' := by
  have HF : Hid (rightLsaB l = false) := right_no (fun h => by have := h.n2 (by omega); omega)
  obtain ⟨z1, z2, z3⟩ := hf
  have e1 : (l.head.kind == 1) = false := by simp [hk]
  have m1 : (l.head.kind != 1) = true := by simp [hk]
  have e2 : (l.head.kind == 2) = false := by simp [hk]
  have m2 : (l.head.kind != 2) = true := by simp [hk]
  have e6 : (l.head.kind == 6) = true := by simp [hk]
  have m6 : (l.head.kind != 6) = false := by simp [hk]
  have tv1 : (l.flags != 0) = false := by simp; omega
  have tv2 : (l.bits != 0) = true := by simp; omega
  clear hk hv1 hv2
  have HX : Hid (Box (w.alloc (.cells (lsaA s l) 39)) w.heap.size s l) := box_new w s l
  have HB : Hid (Below w.heap.size w (w.alloc (.cells (lsaA s l) 39))) := below_new' _ _
  go_enter Try.func42, Try.ntmps42
  go_wp2_with fail
  refine (headRight_any l.head _).mono ?_
  rintro e w1 ⟨rfl, hb⟩
  rw [hh]
  replace HX : Hid (Box w1 w.heap.size s l) := HX.out.below hb HX.out.lt
  replace HB : Hid (Below w.heap.size w w1) := below_more HB.out hb HB.out.size
  clear hb
  obtain ⟨c0, c1, c2, c3, c4, c5, c6, c7, c8, c9, c10, c11⟩ := HX.out
  go_wp2
  go_ret
  exact ⟨ret_bool HF.out.symm, HB.out⟩
set_option maxHeartbeats 1600000 in
set_option maxRecDepth 20000 in
theorem rr_k6_l2 (s : Seats) (l : LsaZ) (w : World) (hf : Fits l) (hh : headRB l.head = true) (hk : l.head.kind = 6) (hf0 : ¬ l.flags < 0) (hf1 : ¬ 255 < l.flags) (hg0 : ¬ 64 < l.links.length) (hb0 : ¬ l.bits < 0) (hb1 : ¬ 32 < l.bits) (hg1 : ¬ 64 < l.routers.length) (hg2 : ¬ 64 < l.verts.length) (hv1 : ¬ (l.flags ≠ 0)) (hl1 : ¬ (0 < l.links.length)) (hv2 : ¬ (l.bits ≠ 0)) (hl2 : 0 < l.routers.length) :
    Calls Try.prog 42 #[.agg (lsaA s l)] w fun e w' => e = .returned (.bool (rightLsaB l)) ∧ Below w.heap.size w w' := by
  have HF : Hid (rightLsaB l = false) := right_no (fun h => by have := h.n2 (by omega); omega)
  obtain ⟨z1, z2, z3⟩ := hf
  have e1 : (l.head.kind == 1) = false := by simp [hk]
  have m1 : (l.head.kind != 1) = true := by simp [hk]
  have e2 : (l.head.kind == 2) = false := by simp [hk]
  have m2 : (l.head.kind != 2) = true := by simp [hk]
  have e6 : (l.head.kind == 6) = true := by simp [hk]
  have m6 : (l.head.kind != 6) = false := by simp [hk]
  have tv1 : (l.flags != 0) = false := by simp; omega
  have tv2 : (l.bits != 0) = false := by simp; omega
  clear hk hv1 hv2
  have HX : Hid (Box (w.alloc (.cells (lsaA s l) 39)) w.heap.size s l) := box_new w s l
  have HB : Hid (Below w.heap.size w (w.alloc (.cells (lsaA s l) 39))) := below_new' _ _
  go_enter Try.func42, Try.ntmps42
  go_wp2_with fail
  refine (headRight_any l.head _).mono ?_
  rintro e w1 ⟨rfl, hb⟩
  rw [hh]
  replace HX : Hid (Box w1 w.heap.size s l) := HX.out.below hb HX.out.lt
  replace HB : Hid (Below w.heap.size w w1) := below_more HB.out hb HB.out.size
  clear hb
  obtain ⟨c0, c1, c2, c3, c4, c5, c6, c7, c8, c9, c10, c11⟩ := HX.out
  go_wp2
  go_ret
  exact ⟨ret_bool HF.out.symm, HB.out⟩
end Go.Proofs.Ytmcemhkhgccojaa
