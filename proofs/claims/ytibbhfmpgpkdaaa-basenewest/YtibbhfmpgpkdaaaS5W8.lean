/- All the bytes of an advertisement; its seal. -/
import Derived.Test.YtibbhfmpgpkdaaaS5W7
import Derived.Test.YtibbhfmpgpkdaaaFL
namespace Go.Proofs.Ytibbhfmpgpkdaaa
open Go.RowKit

theorem Box.conj {x : World} {b : Nat} {s : Seats} {l : LsaZ} (h : Box x b s l) : x.cell? ⟨b, 0, none⟩ = some (.int .i64 l.head.age) ∧ x.cell? ⟨b, 1, none⟩ = some (.int .i64 l.head.kind) ∧ x.cell? ⟨b, 2, none⟩ = some (.int .i64 l.head.id) ∧ x.cell? ⟨b, 3, none⟩ = some (.int .i64 l.head.adv) ∧ x.cell? ⟨b, 4, none⟩ = some (.int .i64 l.head.seq) ∧ x.cell? ⟨b, 5, none⟩ = some (.int .i64 l.head.sum) ∧ x.cell? ⟨b, 6, none⟩ = some (.int .i64 l.head.len) ∧ x.cell? ⟨b, 7, none⟩ = some (.int .i64 l.flags) ∧ x.cell? ⟨b, 8, none⟩ = some (.slice s.la l.links.length s.lc) ∧ x.cell? ⟨b, 9, none⟩ = some (.int .i64 l.bits) ∧ x.cell? ⟨b, 10, none⟩ = some (.slice s.ra l.routers.length s.rc) ∧ x.cell? ⟨b, 11, none⟩ = some (.slice s.va l.verts.length s.vc) := by
  obtain ⟨c0, c1, c2, c3, c4, c5, c6, c7, c8, c9, c10, c11⟩ := h
  exact ⟨c0, c1, c2, c3, c4, c5, c6, c7, c8, c9, c10, c11⟩
theorem box_of {x : World} {b : Nat} {s : Seats} {l : LsaZ} (h : x.cell? ⟨b, 0, none⟩ = some (.int .i64 l.head.age) ∧ x.cell? ⟨b, 1, none⟩ = some (.int .i64 l.head.kind) ∧ x.cell? ⟨b, 2, none⟩ = some (.int .i64 l.head.id) ∧ x.cell? ⟨b, 3, none⟩ = some (.int .i64 l.head.adv) ∧ x.cell? ⟨b, 4, none⟩ = some (.int .i64 l.head.seq) ∧ x.cell? ⟨b, 5, none⟩ = some (.int .i64 l.head.sum) ∧ x.cell? ⟨b, 6, none⟩ = some (.int .i64 l.head.len) ∧ x.cell? ⟨b, 7, none⟩ = some (.int .i64 l.flags) ∧ x.cell? ⟨b, 8, none⟩ = some (.slice s.la l.links.length s.lc) ∧ x.cell? ⟨b, 9, none⟩ = some (.int .i64 l.bits) ∧ x.cell? ⟨b, 10, none⟩ = some (.slice s.ra l.routers.length s.rc) ∧ x.cell? ⟨b, 11, none⟩ = some (.slice s.va l.verts.length s.vc)) : Box x b s l := by
  obtain ⟨c0, c1, c2, c3, c4, c5, c6, c7, c8, c9, c10, c11⟩ := h
  exact ⟨c0, c1, c2, c3, c4, c5, c6, c7, c8, c9, c10, c11⟩
theorem keep_box {x x' : World} {b N : Nat} {s : Seats} {l : LsaZ} (h : x.cell? ⟨b, 0, none⟩ = some (.int .i64 l.head.age) ∧ x.cell? ⟨b, 1, none⟩ = some (.int .i64 l.head.kind) ∧ x.cell? ⟨b, 2, none⟩ = some (.int .i64 l.head.id) ∧ x.cell? ⟨b, 3, none⟩ = some (.int .i64 l.head.adv) ∧ x.cell? ⟨b, 4, none⟩ = some (.int .i64 l.head.seq) ∧ x.cell? ⟨b, 5, none⟩ = some (.int .i64 l.head.sum) ∧ x.cell? ⟨b, 6, none⟩ = some (.int .i64 l.head.len) ∧ x.cell? ⟨b, 7, none⟩ = some (.int .i64 l.flags) ∧ x.cell? ⟨b, 8, none⟩ = some (.slice s.la l.links.length s.lc) ∧ x.cell? ⟨b, 9, none⟩ = some (.int .i64 l.bits) ∧ x.cell? ⟨b, 10, none⟩ = some (.slice s.ra l.routers.length s.rc) ∧ x.cell? ⟨b, 11, none⟩ = some (.slice s.va l.verts.length s.vc)) (hb : Below N x x') (hN : b < N) : x'.cell? ⟨b, 0, none⟩ = some (.int .i64 l.head.age) ∧ x'.cell? ⟨b, 1, none⟩ = some (.int .i64 l.head.kind) ∧ x'.cell? ⟨b, 2, none⟩ = some (.int .i64 l.head.id) ∧ x'.cell? ⟨b, 3, none⟩ = some (.int .i64 l.head.adv) ∧ x'.cell? ⟨b, 4, none⟩ = some (.int .i64 l.head.seq) ∧ x'.cell? ⟨b, 5, none⟩ = some (.int .i64 l.head.sum) ∧ x'.cell? ⟨b, 6, none⟩ = some (.int .i64 l.head.len) ∧ x'.cell? ⟨b, 7, none⟩ = some (.int .i64 l.flags) ∧ x'.cell? ⟨b, 8, none⟩ = some (.slice s.la l.links.length s.lc) ∧ x'.cell? ⟨b, 9, none⟩ = some (.int .i64 l.bits) ∧ x'.cell? ⟨b, 10, none⟩ = some (.slice s.ra l.routers.length s.rc) ∧ x'.cell? ⟨b, 11, none⟩ = some (.slice s.va l.verts.length s.vc) :=
  ((box_of h).below hb hN).conj
theorem lay_fits {l : LsaZ} (h : Mid l) : (layZ l).length ≤ 13000000 := by
  unfold layZ
  rw [List.length_append, headZ_length, bodyZ_length]
  have := h.hl; have := h.hr; have := h.hv
  split
  · omega
  · split
    · omega
    · split <;> omega
set_option maxHeartbeats 1600000 in
theorem lay_any (s : Seats) (l : LsaZ) (w : World) (hH : Held w s l) (hf : Mid l) :
    Calls Try.prog 82 #[.agg (lsaA s l)] w fun e w' => ∃ g cp, e = .returned (.slice (some ⟨g, 0, none⟩) (layZ l).length cp) ∧ Owns w' w.heap.size g cp (layZ l) ∧ Below w.heap.size w w' := by
  have HH : Hid (Held w s l) := hH
  have HF : Hid (Mid l) := hf
  have hX := (box_new w s l).conj
  have hlt : w.heap.size < (w.alloc (.cells (lsaA s l) 39)).drew.heap.size := by simp
  have HB : Hid (Below w.heap.size w (w.alloc (.cells (lsaA s l) 39)).drew) := (below_new' _ _).drew
  clear hH hf
  obtain ⟨c0, c1, c2, c3, c4, c5, c6, c7, c8, c9, c10, c11⟩ := hX
  go_enter Try.func82, Try.ntmps82
  go_upto_region 1 with fail
  generalize w.alloc (.cells (lsaA s l) 39) = W at *
  go_region_held3 (fun x => x.cell? ⟨w.heap.size, 0, none⟩ = some (.int .i64 l.head.age) ∧ x.cell? ⟨w.heap.size, 1, none⟩ = some (.int .i64 l.head.kind) ∧ x.cell? ⟨w.heap.size, 2, none⟩ = some (.int .i64 l.head.id) ∧ x.cell? ⟨w.heap.size, 3, none⟩ = some (.int .i64 l.head.adv) ∧ x.cell? ⟨w.heap.size, 4, none⟩ = some (.int .i64 l.head.seq) ∧ x.cell? ⟨w.heap.size, 5, none⟩ = some (.int .i64 l.head.sum) ∧ x.cell? ⟨w.heap.size, 6, none⟩ = some (.int .i64 l.head.len) ∧ x.cell? ⟨w.heap.size, 7, none⟩ = some (.int .i64 l.flags) ∧ x.cell? ⟨w.heap.size, 8, none⟩ = some (.slice s.la l.links.length s.lc) ∧ x.cell? ⟨w.heap.size, 9, none⟩ = some (.int .i64 l.bits) ∧ x.cell? ⟨w.heap.size, 10, none⟩ = some (.slice s.ra l.routers.length s.rc) ∧ x.cell? ⟨w.heap.size, 11, none⟩ = some (.slice s.va l.verts.length s.vc)) (first | exact keep_box (by assumption) hk2 hlt | exact keep_box (by assumption) hk hlt | go_keep)
    (first | (go_at_call 92; refine (putHead_any l.head _).mono ?_; rintro e w1 ⟨g1, cp1, rfl, ho, hk⟩) | (go_at_call 91; refine (appendBody_any s l _ _ _ _ (headZ l.head) W.drew _ ho rfl (by simp [headZ_length]) (HH.out.below HB.out) hk (Nat.le_refl _) HF.out).mono ?_; rintro e w2 ⟨g2, cp2, rfl, ho2, hk2⟩))
  rename_i hH
  have HR : Hid (Owns w2 w.heap.size g2 cp2 (layZ l) ∧ Below w.heap.size w w2) := ⟨ho2.base (Nat.le_of_lt hlt), below_more HB.out (hk.trans hk2) (Nat.le_of_lt hlt)⟩
  clear ho hk ho2 hk2 hH hlt c0 c1 c2 c3 c4 c5 c6 c7 c8 c9 c10 c11
  go_wp2
  go_ret
  exact ⟨_, _, ret_slice (by unfold layZ; rw [List.length_append]), HR.out⟩
end Go.Proofs.Ytibbhfmpgpkdaaa
