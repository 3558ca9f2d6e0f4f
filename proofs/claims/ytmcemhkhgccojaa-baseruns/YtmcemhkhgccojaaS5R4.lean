/- Which advertisements are right, as the document says it: the lists. -/
import Derived.Test.YtmcemhkhgccojaaS5R3
namespace Go.Proofs.Ytmcemhkhgccojaa
open Go.RowKit

set_option maxHeartbeats 1600000 in
set_option maxRecDepth 20000 in
theorem rr_go2 (s : Seats) (l : LsaZ) (w : World) (hf : Fits l) (hH : Held w s l) (hh : headRB l.head = true) (hk : l.head.kind = 2) (hf0 : ¬ l.flags < 0) (hf1 : ¬ 255 < l.flags) (hg0 : ¬ 64 < l.links.length) (hb0 : ¬ l.bits < 0) (hb1 : ¬ 32 < l.bits) (hg1 : ¬ 64 < l.routers.length) (hg2 : ¬ 64 < l.verts.length) (hv1 : ¬ (l.flags ≠ 0)) (hl1 : ¬ (0 < l.links.length)) (hl6 : ¬ (0 < l.verts.length)) (HE : rightLsaB l = l.routers.all rightI) :
    Calls Try.prog 42 #[.agg (lsaA s l)] w fun e w' => e = .returned (.bool (rightLsaB l)) ∧ Below w.heap.size w w' := by
  have HR : Hid (rightLsaB l = l.routers.all rightI) := HE
  have HH : Hid (Held w s l) := hH
  clear hH
  obtain ⟨z1, z2, z3⟩ := hf
  obtain ⟨la, lc, ra, rc, va, vc⟩ := s
  have e1 : (l.head.kind == 1) = false := by simp [hk]
  have m1 : (l.head.kind != 1) = true := by simp [hk]
  have e2 : (l.head.kind == 2) = true := by simp [hk]
  have m2 : (l.head.kind != 2) = false := by simp [hk]
  have e6 : (l.head.kind == 6) = false := by simp [hk]
  have m6 : (l.head.kind != 6) = true := by simp [hk]
  have tv1 : (l.flags != 0) = false := by simp; omega
  clear HE hk hv1
  have HX : Hid (Box (w.alloc (.cells (lsaA ⟨la, lc, ra, rc, va, vc⟩ l) 39)) w.heap.size ⟨la, lc, ra, rc, va, vc⟩ l) := box_new w _ l
  have HB : Hid (Below w.heap.size w (w.alloc (.cells (lsaA ⟨la, lc, ra, rc, va, vc⟩ l) 39))) := below_new' _ _
  go_enter Try.func42, Try.ntmps42
  go_wp2_with fail
  refine (headRight_any l.head _).mono ?_
  rintro e w1 ⟨rfl, hb⟩
  rw [hh]
  replace HX : Hid (Box w1 w.heap.size ⟨la, lc, ra, rc, va, vc⟩ l) := HX.out.below hb HX.out.lt
  replace HB : Hid (Below w.heap.size w w1) := below_more HB.out hb HB.out.size
  clear hb
  obtain ⟨c0, c1, c2, c3, c4, c5, c6, c7, c8, c9, c10, c11⟩ := HX.out
  go_wp2_with fail
  refine wp_loop_rounds 1 ?_
  rw [rounds_succ]
  go_wp2
  clear c0 c1 c2 c3 c4 c5 c6 c7 c8 c9 c10 c11
  go_loopw [6] (fun t wr => ∃ k : Nat, k ≤ l.routers.length ∧ t = .int .i64 k ∧ Hid ((l.routers.take k).all rightI = true) ∧ Hid (Below (w.heap.size + 1) w1 wr)) (fun t _ => l.routers.length - (intOf t).toNat)
  case atStart => exact ⟨0, by omega, rfl, by show _ = _; simp, Below.refl _ _⟩
  case round =>
    obtain ⟨k, hk, rfl, H, HBr⟩ := hrel
    have HBw : Hid (Below w.heap.size w wr) := below_more HB.out HBr.out (Nat.le_succ _)
    have hX := HX.out.below HBr.out (Nat.lt_succ_self _)
    by_cases hlt : k < l.routers.length
    · have hLs := (HH.out.below HBw.out).hr
      dsimp only at hLs
      obtain ⟨b, off, rfl, x0⟩ := Ints.cells hLs k hlt
      obtain ⟨c0, c1, c2, c3, c4, c5, c6, c7, c8, c9, c10, c11⟩ := hX
      clear hLs
      cases hb : rightI l.routers[k] with
      | true =>
        skip
        go_wp2_with (go_at_call 58; refine (rright_any _ _).mono ?_; rintro e w' ⟨rfl, rfl⟩)
        go_roundw
        case rel => exact ⟨k + 1, by omega, by go_num, by show _ = _; rw [all_take_succ rightI l.routers k hlt, H.out, hb]; rfl, HBr.out⟩
        case measure => simp [intOf]; omega
      | false =>
        have HF : Hid (rightLsaB l = false) := by show _ = _; rw [HR.out]; exact all_false hlt hb
        have HBB : Hid (rightI l.routers[k] = false) := hb
        go_wp2_with (go_at_call 58; refine (rright_any _ _).mono ?_; rintro e w' ⟨rfl, rfl⟩)
        go_ret
        exact ⟨ret_bool HF.out.symm, HBw.out⟩
    · have HT : Hid (rightLsaB l = true) := by show _ = _; rw [HR.out]; exact all_end hlt H.out
      obtain ⟨c0, c1, c2, c3, c4, c5, c6, c7, c8, c9, c10, c11⟩ := hX
      go_wp2
      refine wp_loop_rounds 1 ?_
      rw [rounds_succ]
      go_wp2
      go_ret
      exact ⟨ret_bool HT.out.symm, HBw.out⟩
set_option maxHeartbeats 1600000 in
set_option maxRecDepth 20000 in
theorem rr_go6 (s : Seats) (l : LsaZ) (w : World) (hf : Fits l) (hH : Held w s l) (hh : headRB l.head = true) (hk : l.head.kind = 6) (hf0 : ¬ l.flags < 0) (hf1 : ¬ 255 < l.flags) (hg0 : ¬ 64 < l.links.length) (hb0 : ¬ l.bits < 0) (hb1 : ¬ 32 < l.bits) (hg1 : ¬ 64 < l.routers.length) (hg2 : ¬ 64 < l.verts.length) (hv1 : ¬ (l.flags ≠ 0)) (hl1 : ¬ (0 < l.links.length)) (hv2 : ¬ (l.bits ≠ 0)) (hl2 : ¬ (0 < l.routers.length)) (HE : rightLsaB l = l.verts.all rightVertB) :
    Calls Try.prog 42 #[.agg (lsaA s l)] w fun e w' => e = .returned (.bool (rightLsaB l)) ∧ Below w.heap.size w w' := by
  have HR : Hid (rightLsaB l = l.verts.all rightVertB) := HE
  have HH : Hid (Held w s l) := hH
  clear hH
  obtain ⟨z1, z2, z3⟩ := hf
  obtain ⟨la, lc, ra, rc, va, vc⟩ := s
  have e1 : (l.head.kind == 1) = false := by simp [hk]
  have m1 : (l.head.kind != 1) = true := by simp [hk]
  have e2 : (l.head.kind == 2) = false := by simp [hk]
  have m2 : (l.head.kind != 2) = true := by simp [hk]
  have e6 : (l.head.kind == 6) = true := by simp [hk]
  have m6 : (l.head.kind != 6) = false := by simp [hk]
  have tv1 : (l.flags != 0) = false := by simp; omega
  have tv2 : (l.bits != 0) = false := by simp; omega
  clear HE hk hv1 hv2
  have HX : Hid (Box (w.alloc (.cells (lsaA ⟨la, lc, ra, rc, va, vc⟩ l) 39)) w.heap.size ⟨la, lc, ra, rc, va, vc⟩ l) := box_new w _ l
  have HB : Hid (Below w.heap.size w (w.alloc (.cells (lsaA ⟨la, lc, ra, rc, va, vc⟩ l) 39))) := below_new' _ _
  go_enter Try.func42, Try.ntmps42
  go_wp2_with fail
  refine (headRight_any l.head _).mono ?_
  rintro e w1 ⟨rfl, hb⟩
  rw [hh]
  replace HX : Hid (Box w1 w.heap.size ⟨la, lc, ra, rc, va, vc⟩ l) := HX.out.below hb HX.out.lt
  replace HB : Hid (Below w.heap.size w w1) := below_more HB.out hb HB.out.size
  clear hb
  obtain ⟨c0, c1, c2, c3, c4, c5, c6, c7, c8, c9, c10, c11⟩ := HX.out
  go_wp2_with fail
  refine wp_loop_rounds 1 ?_
  rw [rounds_succ]
  go_wp2
  refine wp_loop_rounds 1 ?_
  rw [rounds_succ]
  go_wp2
  clear c0 c1 c2 c3 c4 c5 c6 c7 c8 c9 c10 c11
  go_loopw [7] (fun t wr => ∃ k : Nat, k ≤ l.verts.length ∧ t = .int .i64 k ∧ Hid ((l.verts.take k).all rightVertB = true) ∧ Hid (Below (w.heap.size + 1) w1 wr)) (fun t _ => l.verts.length - (intOf t).toNat)
  case atStart => exact ⟨0, by omega, rfl, by show _ = _; simp, Below.refl _ _⟩
  case round =>
    obtain ⟨k, hk, rfl, H, HBr⟩ := hrel
    have HBw : Hid (Below w.heap.size w wr) := below_more HB.out HBr.out (Nat.le_succ _)
    have hX := HX.out.below HBr.out (Nat.lt_succ_self _)
    by_cases hlt : k < l.verts.length
    · have hLs := (HH.out.below HBw.out).hv
      dsimp only at hLs
      obtain ⟨b, off, rfl, x0, x1⟩ := Verts.cells hLs k hlt
      obtain ⟨c0, c1, c2, c3, c4, c5, c6, c7, c8, c9, c10, c11⟩ := hX
      clear hLs
      cases hb : rightVertB l.verts[k] with
      | true =>
        obtain ⟨y1, y2, y3⟩ := vert_yes hb
        go_wp2_with (go_at_call 58; refine (rright_any _ _).mono ?_; rintro e w' ⟨rfl, rfl⟩)
        go_roundw
        case rel => exact ⟨k + 1, by omega, by go_num, by show _ = _; rw [all_take_succ rightVertB l.verts k hlt, H.out, hb]; rfl, HBr.out⟩
        case measure => simp [intOf]; omega
      | false =>
        have HF : Hid (rightLsaB l = false) := by show _ = _; rw [HR.out]; exact all_false hlt hb
        have HBB : Hid (rightVertB l.verts[k] = false) := hb
        clear hb
        go_wp2_with (go_at_call 58; refine (rright_any _ _).mono ?_; rintro e w' ⟨rfl, rfl⟩)
        all_goals first
          | (go_ret; exact ⟨ret_bool HF.out.symm, HBw.out⟩)
          | (exfalso; rename_i hq; have h9 := HBB.out; rw [vert_to (by omega) (by omega) (by simpa using hq.2)] at h9; cases h9)
    · have HT : Hid (rightLsaB l = true) := by show _ = _; rw [HR.out]; exact all_end hlt H.out
      obtain ⟨c0, c1, c2, c3, c4, c5, c6, c7, c8, c9, c10, c11⟩ := hX
      go_wp2
      go_ret
      exact ⟨ret_bool HT.out.symm, HBw.out⟩
end Go.Proofs.Ytmcemhkhgccojaa
