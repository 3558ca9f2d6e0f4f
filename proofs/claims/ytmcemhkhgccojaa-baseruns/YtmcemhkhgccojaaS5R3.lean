/- Which advertisements are right, as the document says it: the lists. -/
import Derived.Test.YtmcemhkhgccojaaS5R2
namespace Go.Proofs.Ytmcemhkhgccojaa
open Go.RowKit

theorem all_false {α : Type} {f : α → Bool} {l : List α} {k : Nat} (hk : k < l.length) (h : f l[k] = false) : l.all f = false := by
  rw [List.all_eq_false]; exact ⟨_, List.getElem_mem hk, by simp [h]⟩
theorem all_end {α : Type} {f : α → Bool} {l : List α} {k : Nat} (hk : ¬ k < l.length) (h : (l.take k).all f = true) : l.all f = true := by
  rwa [List.take_of_length_le (by omega)] at h
theorem link_yes {k : LinkZ} (h : rightLinkB k = true) : 1 ≤ k.kind ∧ k.kind ≤ 3 ∧ rightI k.id = true ∧ rightI k.data = true ∧ 0 ≤ k.cost ∧ k.cost ≤ 65535 := by
  simp only [rightLinkB, Bool.and_eq_true, amongB_true] at h
  exact ⟨h.1.1.1.1, h.1.1.1.2, h.1.1.2, h.1.2, h.2.1, h.2.2⟩
theorem link_to {k : LinkZ} (h1 : 1 ≤ k.kind) (h2 : k.kind ≤ 3) (h3 : rightI k.id = true) (h4 : rightI k.data = true) (h5 : 0 ≤ k.cost) (h6 : k.cost ≤ 65535) : rightLinkB k = true := by
  simp only [rightLinkB, Bool.and_eq_true, amongB_true]
  exact ⟨⟨⟨⟨h1, h2⟩, h3⟩, h4⟩, h5, h6⟩
theorem vert_yes {k : VertZ} (h : rightVertB k = true) : 1 ≤ k.kind ∧ k.kind ≤ 2 ∧ rightI k.id = true := by
  simp only [rightVertB, Bool.and_eq_true, amongB_true] at h
  exact ⟨h.1.1, h.1.2, h.2⟩
theorem vert_to {k : VertZ} (h1 : 1 ≤ k.kind) (h2 : k.kind ≤ 2) (h3 : rightI k.id = true) : rightVertB k = true := by
  simp only [rightVertB, Bool.and_eq_true, amongB_true]
  exact ⟨⟨h1, h2⟩, h3⟩
set_option maxHeartbeats 1600000 in
set_option maxRecDepth 20000 in
theorem rr_go1 (s : Seats) (l : LsaZ) (w : World) (hf : Fits l) (hH : Held w s l) (hh : headRB l.head = true) (hk : l.head.kind = 1) (hf0 : ¬ l.flags < 0) (hf1 : ¬ 255 < l.flags) (hg0 : ¬ 64 < l.links.length) (hb0 : ¬ l.bits < 0) (hb1 : ¬ 32 < l.bits) (hg1 : ¬ 64 < l.routers.length) (hg2 : ¬ 64 < l.verts.length) (hv2 : ¬ (l.bits ≠ 0)) (hl2 : ¬ (0 < l.routers.length)) (hl6 : ¬ (0 < l.verts.length)) (HE : rightLsaB l = l.links.all rightLinkB) :
    Calls Try.prog 42 #[.agg (lsaA s l)] w fun e w' => e = .returned (.bool (rightLsaB l)) ∧ Below w.heap.size w w' := by
  have HR : Hid (rightLsaB l = l.links.all rightLinkB) := HE
  have HH : Hid (Held w s l) := hH
  clear hH
  obtain ⟨z1, z2, z3⟩ := hf
  obtain ⟨la, lc, ra, rc, va, vc⟩ := s
  have e1 : (l.head.kind == 1) = true := by simp [hk]
  have m1 : (l.head.kind != 1) = false := by simp [hk]
  have e2 : (l.head.kind == 2) = false := by simp [hk]
  have m2 : (l.head.kind != 2) = true := by simp [hk]
  have e6 : (l.head.kind == 6) = false := by simp [hk]
  have m6 : (l.head.kind != 6) = true := by simp [hk]
  have tv2 : (l.bits != 0) = false := by simp; omega
  clear HE hk hv2
  have HX : Hid (Box (w.alloc (.cells (lsaA ⟨la, lc, ra, rc, va, vc⟩ l) 39)) w.heap.size ⟨la, lc, ra, rc, va, vc⟩ l) := box_new w _ l
  have HB : Hid (Below w.heap.size w (w.alloc (.cells (lsaA ⟨la, lc, ra, rc, va, vc⟩ l) 39))) := below_new' _ _
  go_enter Try.func42, Try.ntmps42
  go_wp2_with fail
  refine (headRight_any l.head _).mono ?_
  rintro e w1 ⟨rfl, hb⟩
  rw [hh]
  replace HX : Hid (Box w1 w.heap.size ⟨la, lc, ra, rc, va, vc⟩ l) := HX.out.below hb HX.out.lt
  replace HB : Hid (Below w.heap.size w w1) := below_more HB.out hb HB.out.size
  clear hb
  obtain ⟨c0, c1, c2, c3, c4, c5, c6, c7, c8, c9, c10, c11⟩ := HX.out
  go_wp2_with fail
  clear c0 c1 c2 c3 c4 c5 c6 c7 c8 c9 c10 c11
  go_loopw [4] (fun t wr => ∃ k : Nat, k ≤ l.links.length ∧ t = .int .i64 k ∧ Hid ((l.links.take k).all rightLinkB = true) ∧ Hid (Below (w.heap.size + 1) w1 wr)) (fun t _ => l.links.length - (intOf t).toNat)
  case atStart => exact ⟨0, by omega, rfl, by show _ = _; simp, Below.refl _ _⟩
  case round =>
    obtain ⟨k, hk, rfl, H, HBr⟩ := hrel
    have HBw : Hid (Below w.heap.size w wr) := below_more HB.out HBr.out (Nat.le_succ _)
    have hX := HX.out.below HBr.out (Nat.lt_succ_self _)
    by_cases hlt : k < l.links.length
    · have hLs := (HH.out.below HBw.out).hl
      dsimp only at hLs
      obtain ⟨b, off, rfl, x0, x1, x2, x3⟩ := Links.cells hLs k hlt
      obtain ⟨c0, c1, c2, c3, c4, c5, c6, c7, c8, c9, c10, c11⟩ := hX
      clear hLs
      cases hb : rightLinkB l.links[k] with
      | true =>
        obtain ⟨y1, y2, y3, y4, y5, y6⟩ := link_yes hb
        go_wp2_with (go_at_call 58; refine (rright_any _ _).mono ?_; rintro e w' ⟨rfl, rfl⟩)
        go_roundw
        case rel => exact ⟨k + 1, by omega, by go_num, by show _ = _; rw [all_take_succ rightLinkB l.links k hlt, H.out, hb]; rfl, HBr.out.alloc (by have := HBr.out.size; have := HX.out.lt; omega) _⟩
        case measure => simp [intOf]; omega
      | false =>
        have HF : Hid (rightLsaB l = false) := by show _ = _; rw [HR.out]; exact all_false hlt hb
        have HBB : Hid (rightLinkB l.links[k] = false) := hb
        clear hb
        go_wp2_with (go_at_call 58; refine (rright_any _ _).mono ?_; rintro e w' ⟨rfl, rfl⟩)
        all_goals first
          | (go_ret; exact ⟨ret_bool HF.out.symm, HBw.out.alloc HBw.out.size _⟩)
          | (exfalso; have h9 := HBB.out; rw [link_to (by omega) (by omega) (by assumption) (by assumption) (by omega) (by omega)] at h9; cases h9)
    · have HT : Hid (rightLsaB l = true) := by show _ = _; rw [HR.out]; exact all_end hlt H.out
      obtain ⟨c0, c1, c2, c3, c4, c5, c6, c7, c8, c9, c10, c11⟩ := hX
      go_wp2
      refine wp_loop_rounds 1 ?_
      rw [rounds_succ]
      go_wp2
      refine wp_loop_rounds 1 ?_
      rw [rounds_succ]
      go_wp2
      go_ret
      exact ⟨ret_bool HT.out.symm, HBw.out⟩
end Go.Proofs.Ytmcemhkhgccojaa
