/- The seal of an advertisement. -/
import Derived.Test.YtmcemhkhgccojaaY8C
import Derived.Test.YtmcemhkhgccojaaY8A
namespace Go.Proofs.Ytmcemhkhgccojaa
open Go.RowKit

abbrev lsaL (s : Seats) (l : LsaZ) : List Value := [.int .i64 l.head.age, .int .i64 l.head.kind, .int .i64 l.head.id, .int .i64 l.head.adv, .int .i64 l.head.seq, .int .i64 l.head.sum, .int .i64 l.head.len, .int .i64 l.flags, .slice s.la l.links.length s.lc, .int .i64 l.bits, .slice s.ra l.routers.length s.rc, .slice s.va l.verts.length s.vc]
abbrev headL (h : HeadZ) : List Value := [.int .i64 h.age, .int .i64 h.kind, .int .i64 h.id, .int .i64 h.adv, .int .i64 h.seq, .int .i64 h.sum, .int .i64 h.len]
abbrev zero7 : List Value := [.int .i64 0, .int .i64 0, .int .i64 0, .int .i64 0, .int .i64 0, .int .i64 0, .int .i64 0]
theorem Var.box {w : World} {b : Nat} {s : Seats} {l : LsaZ} (h : Var w b (lsaL s l)) : Box w b s l := by
  constructor
  · exact h.cell 0 rfl
  · exact h.cell 1 rfl
  · exact h.cell 2 rfl
  · exact h.cell 3 rfl
  · exact h.cell 4 rfl
  · exact h.cell 5 rfl
  · exact h.cell 6 rfl
  · exact h.cell 7 rfl
  · exact h.cell 8 rfl
  · exact h.cell 9 rfl
  · exact h.cell 10 rfl
  · exact h.cell 11 rfl
def withLen (l : LsaZ) (n : Int) : LsaZ := { l with head := { l.head with len := n } }
def withSum (l : LsaZ) (n : Int) : LsaZ := { l with head := { l.head with sum := n } }
/-- The Sum that the bytes must have. -/
def sumOf (l : LsaZ) : Int := pairAt ((layZ l).drop 2) 14
def lenZ (l : LsaZ) : Int := (layZ l).length
def sealH (l : LsaZ) : HeadZ := { l.head with len := lenZ l, sum := sumOf (withLen l (lenZ l)) }
theorem Held.len {w : World} {s : Seats} {l : LsaZ} (h : Held w s l) (n : Int) : Held w s (withLen l n) := ⟨h.hl, h.hr, h.hv⟩
theorem Mid.len {l : LsaZ} (h : Mid l) (n : Int) : Mid (withLen l n) := ⟨h.hl, h.hr, h.hv⟩
theorem lay_len (l : LsaZ) (n : Int) : (layZ (withLen l n)).length = (layZ l).length := by
  unfold layZ; rw [List.length_append, List.length_append]; rfl
theorem lay_min (l : LsaZ) : 20 ≤ (layZ l).length := by unfold layZ; rw [List.length_append, headZ_length]; omega
theorem bts_drop {w : World} {g off k : Nat} {zs : List Int} (h : Bts w (some ⟨g, off, none⟩) zs) : Bts w (some ⟨g, off + k, none⟩) (zs.drop k) := by
  rcases h with h | ⟨b, o, e, hc⟩
  · exact .inl (by rw [h]; simp)
  · cases e
    refine .inr ⟨g, off + k, rfl, fun i hi => ?_⟩
    have hi' : i + k < zs.length := by simp at hi; omega
    rw [show off + k + i = off + (i + k) by omega, hc _ hi']
    simp [List.getD_eq_getElem?_getD, List.getElem?_drop, Nat.add_comm]
theorem areBytes_drop {zs : List Int} (h : AreBytes zs) (k : Nat) : AreBytes (zs.drop k) := fun z hz => h z (List.mem_of_mem_drop hz)
theorem pair_at (a : Option Addr) (m cap : Nat) (zs : List Int) (n : Int) (w : World) (hm : m = zs.length) (hB : Bts w a zs) (hz : AreBytes zs) (hl : zs.length ≤ 140737488355328) :
    Calls Try.prog 80 #[.slice a m cap, .int .i64 n] w fun e w' => e = .returned (.int .i64 (pairAt zs n)) ∧ w' = w := by subst hm; exact pair_any a cap zs n w hB hz hl

set_option maxHeartbeats 1600000 in
theorem sealed_any (s : Seats) (l : LsaZ) (w : World) (hH : Held w s l) (hf : Mid l) :
    Calls Try.prog 66 #[.agg (lsaA s l)] w fun e w' => e = .returned (.agg (headA (sealH l))) ∧ Below w.heap.size w w' := by
  have HS : Hid (sealH l = { l.head with len := lenZ l, sum := sumOf (withLen l (lenZ l)) }) := rfl
  have HL : Hid (lenZ l = (layZ l).length) := rfl
  have HU : Hid (sumOf (withLen l (lenZ l)) = pairAt ((layZ (withLen l (lenZ l))).drop 2) 14) := rfl
  have HV : Hid (Var ((w.alloc (.cells (lsaA s l) 39)).alloc (.cells zero7.toArray 34)) w.heap.size (lsaL s l)) := (var_new w (lsaL s l) _).alloc _
  have HR : Hid (Var ((w.alloc (.cells (lsaA s l) 39)).alloc (.cells zero7.toArray 34)) (w.heap.size + 1) zero7) := by
    have := var_new (w.alloc (.cells (lsaA s l) 39)) zero7 34
    rw [size_new] at this; exact this
  have HB : Hid (Below w.heap.size w ((w.alloc (.cells (lsaA s l) 39)).alloc (.cells zero7.toArray 34))) := (below_new' _ _).alloc (by simp) _
  have HH : Hid (Held w s l) := hH
  have HF : Hid (Mid l) := hf
  clear hH hf
  go_enter Try.func66, Try.ntmps66
  go_upto_region 1 with fail
  generalize (w.alloc (.cells (lsaA s l) 39)).alloc (.cells zero7.toArray 34) = W at *
  obtain ⟨c0, c1, c2, c3, c4, c5, c6, c7, c8, c9, c10, c11⟩ := HV.out.box
  go_wp2_with fail
  refine (lay_any s l _ (HH.out.below HB.out) HF.out).mono ?_
  rintro e w1 ⟨g1, cp1, rfl, _, hb⟩
  replace HR : Hid (Var w1 (w.heap.size + 1) zero7) := HR.out.below hb HR.out.lt
  replace HB : Hid (Below w.heap.size w w1) := below_more HB.out hb HB.out.size
  replace HV : Hid (Var w1 w.heap.size (lsaL s l)) := HV.out.below hb HV.out.lt
  clear hb c0 c1 c2 c3 c4 c5 c6 c7 c8 c9 c10 c11
  obtain ⟨c0, c1, c2, c3, c4, c5, c6, c7, c8, c9, c10, c11⟩ := HV.out.box
  have z6 := HV.out.frozen 6
  replace HR : Hid (Var (w1.setCell ⟨w.heap.size, 6, none⟩ (.int .i64 (layZ l).length)) (w.heap.size + 1) zero7) := HR.out.other (by omega) _ _
  replace HB : Hid (Below w.heap.size w (w1.setCell ⟨w.heap.size, 6, none⟩ (.int .i64 (layZ l).length))) := HB.out.setCell (p := ⟨w.heap.size, 6, none⟩) (Nat.le_refl _) _
  replace HV : Hid (Var (w1.setCell ⟨w.heap.size, 6, none⟩ (.int .i64 (layZ l).length)) w.heap.size (lsaL s (withLen l (lenZ l)))) := HV.out.set 6 _
  go_upto_region 2 with fail
  generalize w1.setCell ⟨w.heap.size, 6, none⟩ (.int .i64 (layZ l).length) = W1 at *
  obtain ⟨L, hL⟩ : ∃ L, L = withLen l (lenZ l) := ⟨_, rfl⟩
  have HLL : Hid (L = withLen l (lenZ l)) := hL
  have HF2 : Hid (Mid L) := hL ▸ HF.out.len _
  have HH2 : Hid (Held w s L) := hL ▸ HH.out.len _
  rw [← hL] at HV HU
  clear hL z6 c0 c1 c2 c3 c4 c5 c6 c7 c8 c9 c10 c11
  obtain ⟨c0, c1, c2, c3, c4, c5, c6, c7, c8, c9, c10, c11⟩ := HV.out.box
  go_wp2_with fail
  refine (lay_any s L _ (HH2.out.below HB.out) HF2.out).mono ?_
  rintro e w2 ⟨g2, cp2, rfl, ho, hb⟩
  replace HR : Hid (Var w2 (w.heap.size + 1) zero7) := HR.out.below hb HR.out.lt
  replace HB : Hid (Below w.heap.size w w2) := below_more HB.out hb HB.out.size
  replace HV : Hid (Var w2 w.heap.size (lsaL s L)) := HV.out.below hb HV.out.lt
  have hmin : 20 ≤ (layZ L).length := lay_min L
  have hcap : (layZ L).length ≤ cp2 := ho.cap
  have hbts : Bts w2 (some ⟨g2, 2, none⟩) ((layZ L).drop 2) := by have := bts_drop (k := 2) ho.bts; simpa using this
  have hp := pair_at (some ⟨g2, 2, none⟩) ((layZ L).length - 2) (cp2 - 2) ((layZ L).drop 2) 14 w2 (by simp) hbts (areBytes_drop (layZ_bd L) 2) (by have := lay_fits HF2.out; simp; omega)
  have hmax := lay_fits HF2.out
  clear hb ho hbts c0 c1 c2 c3 c4 c5 c6 c7 c8 c9 c10 c11
  go_wp2_with fail
  refine hp.mono ?_
  rintro e w3 ⟨rfl, hq⟩
  subst w3
  rw [← HU.out]
  clear hp
  obtain ⟨c0, c1, c2, c3, c4, c5, c6, c7, c8, c9, c10, c11⟩ := HV.out.box
  have z5 := HV.out.frozen 5
  generalize sumOf L = u at *
  replace HR : Hid (Var (w2.setCell ⟨w.heap.size, 5, none⟩ (.int .i64 u)) (w.heap.size + 1) zero7) := HR.out.other (by omega) _ _
  replace HB : Hid (Below w.heap.size w (w2.setCell ⟨w.heap.size, 5, none⟩ (.int .i64 u))) := HB.out.setCell (p := ⟨w.heap.size, 5, none⟩) (Nat.le_refl _) _
  replace HV : Hid (Var (w2.setCell ⟨w.heap.size, 5, none⟩ (.int .i64 u)) w.heap.size (lsaL s (withSum L u))) := HV.out.set 5 _
  go_upto_region 3 with fail
  generalize w2.setCell ⟨w.heap.size, 5, none⟩ (.int .i64 u) = W2 at *
  obtain ⟨M, hM⟩ : ∃ M, M = withSum L u := ⟨_, rfl⟩
  have HMM : Hid (M = withSum L u) := hM
  rw [← hM] at HV
  clear hM z5 c0 c1 c2 c3 c4 c5 c6 c7 c8 c9 c10 c11
  obtain ⟨c0, c1, c2, c3, c4, c5, c6, c7, c8, c9, c10, c11⟩ := HV.out.box
  have r0 := HR.out.cell 0 rfl
  have q0 := HR.out.frozen 0
  have r1 := HR.out.cell 1 rfl
  have q1 := HR.out.frozen 1
  have r2 := HR.out.cell 2 rfl
  have q2 := HR.out.frozen 2
  have r3 := HR.out.cell 3 rfl
  have q3 := HR.out.frozen 3
  have r4 := HR.out.cell 4 rfl
  have q4 := HR.out.frozen 4
  have r5 := HR.out.cell 5 rfl
  have q5 := HR.out.frozen 5
  have r6 := HR.out.cell 6 rfl
  have q6 := HR.out.frozen 6
  go_wp2_with fail
  have HZ := HR.out.put7 (.int .i64 M.head.age) (.int .i64 M.head.kind) (.int .i64 M.head.id) (.int .i64 M.head.adv) (.int .i64 M.head.seq) (.int .i64 M.head.sum) (.int .i64 M.head.len)
  have HK := below_put7 HB.out (Nat.le_succ w.heap.size) (.int .i64 M.head.age) (.int .i64 M.head.kind) (.int .i64 M.head.id) (.int .i64 M.head.adv) (.int .i64 M.head.seq) (.int .i64 M.head.sum) (.int .i64 M.head.len)
  clear c0 c1 c2 c3 c4 c5 c6 c7 c8 c9 c10 c11 r0 q0 r1 q1 r2 q2 r3 q3 r4 q4 r5 q5 r6 q6
  generalize (((((((W2.setCell ⟨w.heap.size + 1, 0, none⟩ (.int .i64 M.head.age)).setCell ⟨w.heap.size + 1, 1, none⟩ (.int .i64 M.head.kind)).setCell ⟨w.heap.size + 1, 2, none⟩ (.int .i64 M.head.id)).setCell ⟨w.heap.size + 1, 3, none⟩ (.int .i64 M.head.adv)).setCell ⟨w.heap.size + 1, 4, none⟩ (.int .i64 M.head.seq)).setCell ⟨w.heap.size + 1, 5, none⟩ (.int .i64 M.head.sum)).setCell ⟨w.heap.size + 1, 6, none⟩ (.int .i64 M.head.len)) = Z at *
  have r0 := HZ.cell 0 rfl
  have r1 := HZ.cell 1 rfl
  have r2 := HZ.cell 2 rfl
  have r3 := HZ.cell 3 rfl
  have r4 := HZ.cell 4 rfl
  have r5 := HZ.cell 5 rfl
  have r6 := HZ.cell 6 rfl
  have HX : Hid (M.head = sealH l) := by show _ = _; rw [HMM.out, HS.out, HU.out, HLL.out]; rfl
  refine bodyPost_ret (by simp [results, Try.results66, go_sem, r0, r1, r2, r3, r4, r5, r6]; try rfl) rfl ?_
  exact ⟨by rw [← HX.out], HK⟩
end Go.Proofs.Ytmcemhkhgccojaa
