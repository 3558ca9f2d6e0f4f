/- The seal, as the document says it. -/
import Derived.Test.YtmcemhkhgccojaaS5D5
import Derived.Test.YtmcemhkhgccojaaS5D2
import Derived.Test.YtmcemhkhgccojaaS5R5
import Derived.Test.YtmcemhkhgccojaaY8D
namespace Go.Proofs.Ytmcemhkhgccojaa
open Go.RowKit
set_option linter.unusedVariables false

theorem Held.put12 {w : World} {s : Seats} {l : LsaZ} {N b : Nat} (h : Held w s l) (hf : Far N s.la ∧ Far N s.ra ∧ Far N s.va) (hb : b < N) (v0 v1 v2 v3 v4 v5 v6 v7 v8 v9 v10 v11 : Value) : Held ((((((((((((w.setCell ⟨b, 0, none⟩ (v0)).setCell ⟨b, 1, none⟩ (v1)).setCell ⟨b, 2, none⟩ (v2)).setCell ⟨b, 3, none⟩ (v3)).setCell ⟨b, 4, none⟩ (v4)).setCell ⟨b, 5, none⟩ (v5)).setCell ⟨b, 6, none⟩ (v6)).setCell ⟨b, 7, none⟩ (v7)).setCell ⟨b, 8, none⟩ (v8)).setCell ⟨b, 9, none⟩ (v9)).setCell ⟨b, 10, none⟩ (v10)).setCell ⟨b, 11, none⟩ (v11)) s l :=
  ⟨h.hl.put12 hf.1 hb v0 v1 v2 v3 v4 v5 v6 v7 v8 v9 v10 v11, h.hr.put12 hf.2.1 hb v0 v1 v2 v3 v4 v5 v6 v7 v8 v9 v10 v11, h.hv.put12 hf.2.2 hb v0 v1 v2 v3 v4 v5 v6 v7 v8 v9 v10 v11⟩
theorem Held.setAt {w : World} {s : Seats} {l : LsaZ} {N : Nat} {p : Addr} (h : Held w s l) (hf : Far N s.la ∧ Far N s.ra ∧ Far N s.va) (hp : p.block < N) (v : Value) : Held (w.setCell p v) s l :=
  ⟨h.hl.set hf.1 hp v, h.hr.set hf.2.1 hp v, h.hv.set hf.2.2 hp v⟩
theorem rpair_at (a : Option Addr) (m cap : Nat) (zs : List Int) (n : Int) (w : World) (hm : m = zs.length) (hB : Bts w a zs) (hz : AreBytes zs) (hl : zs.length ≤ 140737488355328) :
    Calls Try.prog 44 #[.slice a m cap, .int .i64 n] w fun e w' => e = .returned (.int .i64 (pairAt zs n)) ∧ Below w.heap.size w w' := by
  subst hm
  exact (rpair_any a cap zs n w hB hz hl).mono fun e w' h => ⟨h.1, by first | exact h.2 ▸ Below.refl _ _ | exact h.2⟩
theorem doc_len (l : LsaZ) (sm ln : Int) : ((layZ (LsaZ.mk (HeadZ.mk l.head.age l.head.kind l.head.id l.head.adv l.head.seq sm ln) l.flags l.links l.bits l.routers l.verts)).length : Int) = (sealH l).len := by
  rw [seal_len, show (LsaZ.mk (HeadZ.mk l.head.age l.head.kind l.head.id l.head.adv l.head.seq sm ln) l.flags l.links l.bits l.routers l.verts) = withHead l (HeadZ.mk l.head.age l.head.kind l.head.id l.head.adv l.head.seq sm ln) from rfl]
  exact lenZ_head l _ rfl
theorem doc_sum (l : LsaZ) (ln : Int) (h : ln = (sealH l).len) : pairAt ((layZ (LsaZ.mk (HeadZ.mk l.head.age l.head.kind l.head.id l.head.adv l.head.seq 0 ln) l.flags l.links l.bits l.routers l.verts)).drop 2) 14 = (sealH l).sum := by
  have e : pairAt ((layZ (LsaZ.mk (HeadZ.mk l.head.age l.head.kind l.head.id l.head.adv l.head.seq 0 ln) l.flags l.links l.bits l.routers l.verts)).drop 2) 14 = sumOf (LsaZ.mk (HeadZ.mk l.head.age l.head.kind l.head.id l.head.adv l.head.seq 0 ln) l.flags l.links l.bits l.routers l.verts) := rfl
  have hb : bodyZ (LsaZ.mk (HeadZ.mk l.head.age l.head.kind l.head.id l.head.adv l.head.seq 0 ln) l.flags l.links l.bits l.routers l.verts) = bodyZ l := by
    rw [show (LsaZ.mk (HeadZ.mk l.head.age l.head.kind l.head.id l.head.adv l.head.seq 0 ln) l.flags l.links l.bits l.routers l.verts) = withHead l (HeadZ.mk l.head.age l.head.kind l.head.id l.head.adv l.head.seq 0 ln) from rfl]; exact body_head l _ rfl
  rw [e, sumOf_eq, hb, seal_sum, h, seal_len]; rfl
set_option maxHeartbeats 3200000 in
set_option maxRecDepth 20000 in
theorem dSeal_not (s : Seats) (l : LsaZ) (w : World) (hH : Held w s l) (hf : Mid l) (hN : Nils s) (hr : rightLsaB l = false) :
    Calls Try.prog 25 #[.agg (lsaA s l)] w (CopyEnd w l) := by
  have HV : Hid (Var ((w.alloc (.cells (lsaA s l) 39)).alloc (.cells zero12.toArray 39)) w.heap.size [.int .i64 l.head.age, .int .i64 l.head.kind, .int .i64 l.head.id, .int .i64 l.head.adv, .int .i64 l.head.seq, .int .i64 l.head.sum, .int .i64 l.head.len, .int .i64 l.flags, .slice s.la l.links.length s.lc, .int .i64 l.bits, .slice s.ra l.routers.length s.rc, .slice s.va l.verts.length s.vc]) := (var_new w (lsaL s l) _).alloc _
  have HR : Hid (Var ((w.alloc (.cells (lsaA s l) 39)).alloc (.cells zero12.toArray 39)) (w.heap.size + 1) zero12) := by
    have := var_new (w.alloc (.cells (lsaA s l) 39)) zero12 39
    rw [size_new] at this; exact this
  have HB : Hid (Below w.heap.size w ((w.alloc (.cells (lsaA s l) 39)).alloc (.cells zero12.toArray 39))) := (below_new' _ _).alloc (by simp) _
  have HH : Hid (Held w s l) := hH
  have HMI : Hid (Mid l) := hf
  have HNI : Hid (Nils s) := hN
  have HRI : Hid (rightLsaB l = _) := hr
  clear hH hf hN hr
  go_enter Try.func25, Try.ntmps25
  go_upto_region 1 with fail
  generalize ((w.alloc (.cells (lsaA s l) 39)).alloc (.cells zero12.toArray 39)) = U0 at *
  have c0 := HV.out.cell 0 rfl
  have c1 := HV.out.cell 1 rfl
  have c2 := HV.out.cell 2 rfl
  have c3 := HV.out.cell 3 rfl
  have c4 := HV.out.cell 4 rfl
  have c5 := HV.out.cell 5 rfl
  have c6 := HV.out.cell 6 rfl
  have c7 := HV.out.cell 7 rfl
  have c8 := HV.out.cell 8 rfl
  have c9 := HV.out.cell 9 rfl
  have c10 := HV.out.cell 10 rfl
  have c11 := HV.out.cell 11 rfl
  go_wp2_with fail
  refine (dCopy_any s l U0 (HH.out.below HB.out) HMI.out HNI.out).mono ?_
  rintro e w1 ⟨s1, rfl, hh, hn, hb, hfar⟩
  have HLT : Hid (w.heap.size < U0.heap.size) := HV.out.lt
  have HFA : Hid (Far (w.heap.size + 2) s1.la ∧ Far (w.heap.size + 2) s1.ra ∧ Far (w.heap.size + 2) s1.va) := ⟨hfar.1.mono HR.out.lt, hfar.2.1.mono HR.out.lt, hfar.2.2.mono HR.out.lt⟩
  replace HV : Hid (Var w1 w.heap.size [.int .i64 l.head.age, .int .i64 l.head.kind, .int .i64 l.head.id, .int .i64 l.head.adv, .int .i64 l.head.seq, .int .i64 l.head.sum, .int .i64 l.head.len, .int .i64 l.flags, .slice s.la l.links.length s.lc, .int .i64 l.bits, .slice s.ra l.routers.length s.rc, .slice s.va l.verts.length s.vc]) := HV.out.below hb HV.out.lt
  replace HR : Hid (Var w1 (w.heap.size + 1) zero12) := HR.out.below hb HR.out.lt
  replace HB : Hid (Below w.heap.size w w1) := below_more HB.out hb HB.out.size
  have HH1 : Hid (Held w1 s1 l) := hh
  have HN1 : Hid (Nils s1) := hn
  clear hh hn hb hfar c0 c1 c2 c3 c4 c5 c6 c7 c8 c9 c10 c11
  have K1 : Hid (Var ((((((((((((w1.setCell ⟨w.heap.size, 0, none⟩ (.int .i64 l.head.age)).setCell ⟨w.heap.size, 1, none⟩ (.int .i64 l.head.kind)).setCell ⟨w.heap.size, 2, none⟩ (.int .i64 l.head.id)).setCell ⟨w.heap.size, 3, none⟩ (.int .i64 l.head.adv)).setCell ⟨w.heap.size, 4, none⟩ (.int .i64 l.head.seq)).setCell ⟨w.heap.size, 5, none⟩ (.int .i64 l.head.sum)).setCell ⟨w.heap.size, 6, none⟩ (.int .i64 l.head.len)).setCell ⟨w.heap.size, 7, none⟩ (.int .i64 l.flags)).setCell ⟨w.heap.size, 8, none⟩ (.slice s1.la l.links.length s1.lc)).setCell ⟨w.heap.size, 9, none⟩ (.int .i64 l.bits)).setCell ⟨w.heap.size, 10, none⟩ (.slice s1.ra l.routers.length s1.rc)).setCell ⟨w.heap.size, 11, none⟩ (.slice s1.va l.verts.length s1.vc)) w.heap.size [.int .i64 l.head.age, .int .i64 l.head.kind, .int .i64 l.head.id, .int .i64 l.head.adv, .int .i64 l.head.seq, .int .i64 l.head.sum, .int .i64 l.head.len, .int .i64 l.flags, .slice s1.la l.links.length s1.lc, .int .i64 l.bits, .slice s1.ra l.routers.length s1.rc, .slice s1.va l.verts.length s1.vc]) := HV.out.put12 (.int .i64 l.head.age) (.int .i64 l.head.kind) (.int .i64 l.head.id) (.int .i64 l.head.adv) (.int .i64 l.head.seq) (.int .i64 l.head.sum) (.int .i64 l.head.len) (.int .i64 l.flags) (.slice s1.la l.links.length s1.lc) (.int .i64 l.bits) (.slice s1.ra l.routers.length s1.rc) (.slice s1.va l.verts.length s1.vc)
  have K2 : Hid (Var ((((((((((((w1.setCell ⟨w.heap.size, 0, none⟩ (.int .i64 l.head.age)).setCell ⟨w.heap.size, 1, none⟩ (.int .i64 l.head.kind)).setCell ⟨w.heap.size, 2, none⟩ (.int .i64 l.head.id)).setCell ⟨w.heap.size, 3, none⟩ (.int .i64 l.head.adv)).setCell ⟨w.heap.size, 4, none⟩ (.int .i64 l.head.seq)).setCell ⟨w.heap.size, 5, none⟩ (.int .i64 l.head.sum)).setCell ⟨w.heap.size, 6, none⟩ (.int .i64 l.head.len)).setCell ⟨w.heap.size, 7, none⟩ (.int .i64 l.flags)).setCell ⟨w.heap.size, 8, none⟩ (.slice s1.la l.links.length s1.lc)).setCell ⟨w.heap.size, 9, none⟩ (.int .i64 l.bits)).setCell ⟨w.heap.size, 10, none⟩ (.slice s1.ra l.routers.length s1.rc)).setCell ⟨w.heap.size, 11, none⟩ (.slice s1.va l.verts.length s1.vc)) (w.heap.size + 1) zero12) := HR.out.put12' (by omega) (.int .i64 l.head.age) (.int .i64 l.head.kind) (.int .i64 l.head.id) (.int .i64 l.head.adv) (.int .i64 l.head.seq) (.int .i64 l.head.sum) (.int .i64 l.head.len) (.int .i64 l.flags) (.slice s1.la l.links.length s1.lc) (.int .i64 l.bits) (.slice s1.ra l.routers.length s1.rc) (.slice s1.va l.verts.length s1.vc)
  have K3 : Hid (Below w.heap.size w ((((((((((((w1.setCell ⟨w.heap.size, 0, none⟩ (.int .i64 l.head.age)).setCell ⟨w.heap.size, 1, none⟩ (.int .i64 l.head.kind)).setCell ⟨w.heap.size, 2, none⟩ (.int .i64 l.head.id)).setCell ⟨w.heap.size, 3, none⟩ (.int .i64 l.head.adv)).setCell ⟨w.heap.size, 4, none⟩ (.int .i64 l.head.seq)).setCell ⟨w.heap.size, 5, none⟩ (.int .i64 l.head.sum)).setCell ⟨w.heap.size, 6, none⟩ (.int .i64 l.head.len)).setCell ⟨w.heap.size, 7, none⟩ (.int .i64 l.flags)).setCell ⟨w.heap.size, 8, none⟩ (.slice s1.la l.links.length s1.lc)).setCell ⟨w.heap.size, 9, none⟩ (.int .i64 l.bits)).setCell ⟨w.heap.size, 10, none⟩ (.slice s1.ra l.routers.length s1.rc)).setCell ⟨w.heap.size, 11, none⟩ (.slice s1.va l.verts.length s1.vc))) := below_put12 HB.out (Nat.le_refl _) (.int .i64 l.head.age) (.int .i64 l.head.kind) (.int .i64 l.head.id) (.int .i64 l.head.adv) (.int .i64 l.head.seq) (.int .i64 l.head.sum) (.int .i64 l.head.len) (.int .i64 l.flags) (.slice s1.la l.links.length s1.lc) (.int .i64 l.bits) (.slice s1.ra l.routers.length s1.rc) (.slice s1.va l.verts.length s1.vc)
  have K4 : Hid (Held ((((((((((((w1.setCell ⟨w.heap.size, 0, none⟩ (.int .i64 l.head.age)).setCell ⟨w.heap.size, 1, none⟩ (.int .i64 l.head.kind)).setCell ⟨w.heap.size, 2, none⟩ (.int .i64 l.head.id)).setCell ⟨w.heap.size, 3, none⟩ (.int .i64 l.head.adv)).setCell ⟨w.heap.size, 4, none⟩ (.int .i64 l.head.seq)).setCell ⟨w.heap.size, 5, none⟩ (.int .i64 l.head.sum)).setCell ⟨w.heap.size, 6, none⟩ (.int .i64 l.head.len)).setCell ⟨w.heap.size, 7, none⟩ (.int .i64 l.flags)).setCell ⟨w.heap.size, 8, none⟩ (.slice s1.la l.links.length s1.lc)).setCell ⟨w.heap.size, 9, none⟩ (.int .i64 l.bits)).setCell ⟨w.heap.size, 10, none⟩ (.slice s1.ra l.routers.length s1.rc)).setCell ⟨w.heap.size, 11, none⟩ (.slice s1.va l.verts.length s1.vc)) s1 l) := HH1.out.put12 HFA.out (by omega) (.int .i64 l.head.age) (.int .i64 l.head.kind) (.int .i64 l.head.id) (.int .i64 l.head.adv) (.int .i64 l.head.seq) (.int .i64 l.head.sum) (.int .i64 l.head.len) (.int .i64 l.flags) (.slice s1.la l.links.length s1.lc) (.int .i64 l.bits) (.slice s1.ra l.routers.length s1.rc) (.slice s1.va l.verts.length s1.vc)
  have r0 := HV.out.cell 0 rfl
  have q0 := HV.out.frozen 0
  have r1 := HV.out.cell 1 rfl
  have q1 := HV.out.frozen 1
  have r2 := HV.out.cell 2 rfl
  have q2 := HV.out.frozen 2
  have r3 := HV.out.cell 3 rfl
  have q3 := HV.out.frozen 3
  have r4 := HV.out.cell 4 rfl
  have q4 := HV.out.frozen 4
  have r5 := HV.out.cell 5 rfl
  have q5 := HV.out.frozen 5
  have r6 := HV.out.cell 6 rfl
  have q6 := HV.out.frozen 6
  have r7 := HV.out.cell 7 rfl
  have q7 := HV.out.frozen 7
  have r8 := HV.out.cell 8 rfl
  have q8 := HV.out.frozen 8
  have r9 := HV.out.cell 9 rfl
  have q9 := HV.out.frozen 9
  have r10 := HV.out.cell 10 rfl
  have q10 := HV.out.frozen 10
  have r11 := HV.out.cell 11 rfl
  have q11 := HV.out.frozen 11
  go_upto_region 2 with fail
  generalize ((((((((((((w1.setCell ⟨w.heap.size, 0, none⟩ (.int .i64 l.head.age)).setCell ⟨w.heap.size, 1, none⟩ (.int .i64 l.head.kind)).setCell ⟨w.heap.size, 2, none⟩ (.int .i64 l.head.id)).setCell ⟨w.heap.size, 3, none⟩ (.int .i64 l.head.adv)).setCell ⟨w.heap.size, 4, none⟩ (.int .i64 l.head.seq)).setCell ⟨w.heap.size, 5, none⟩ (.int .i64 l.head.sum)).setCell ⟨w.heap.size, 6, none⟩ (.int .i64 l.head.len)).setCell ⟨w.heap.size, 7, none⟩ (.int .i64 l.flags)).setCell ⟨w.heap.size, 8, none⟩ (.slice s1.la l.links.length s1.lc)).setCell ⟨w.heap.size, 9, none⟩ (.int .i64 l.bits)).setCell ⟨w.heap.size, 10, none⟩ (.slice s1.ra l.routers.length s1.rc)).setCell ⟨w.heap.size, 11, none⟩ (.slice s1.va l.verts.length s1.vc)) = U1 at *
  clear r0 r1 r2 r3 r4 r5 r6 r7 r8 r9 r10 r11 q0 q1 q2 q3 q4 q5 q6 q7 q8 q9 q10 q11 HV HR HB HH1
  have c0 := K1.out.cell 0 rfl
  have c1 := K1.out.cell 1 rfl
  have c2 := K1.out.cell 2 rfl
  have c3 := K1.out.cell 3 rfl
  have c4 := K1.out.cell 4 rfl
  have c5 := K1.out.cell 5 rfl
  have c6 := K1.out.cell 6 rfl
  have c7 := K1.out.cell 7 rfl
  have c8 := K1.out.cell 8 rfl
  have c9 := K1.out.cell 9 rfl
  have c10 := K1.out.cell 10 rfl
  have c11 := K1.out.cell 11 rfl
  go_wp2_with fail
  refine (rrightLsa_any s1 l U1 K4.out HMI.out.fits).mono ?_
  rintro e w2 ⟨rfl, hb⟩
  rw [HRI.out]
  have HV : Hid (Var w2 w.heap.size [.int .i64 l.head.age, .int .i64 l.head.kind, .int .i64 l.head.id, .int .i64 l.head.adv, .int .i64 l.head.seq, .int .i64 l.head.sum, .int .i64 l.head.len, .int .i64 l.flags, .slice s1.la l.links.length s1.lc, .int .i64 l.bits, .slice s1.ra l.routers.length s1.rc, .slice s1.va l.verts.length s1.vc]) := K1.out.below hb K1.out.lt
  have HR : Hid (Var w2 (w.heap.size + 1) zero12) := K2.out.below hb K2.out.lt
  have HB : Hid (Below w.heap.size w w2) := below_more K3.out hb K3.out.size
  have HH1 : Hid (Held w2 s1 l) := K4.out.below hb
  clear hb K1 K2 K3 K4 c0 c1 c2 c3 c4 c5 c6 c7 c8 c9 c10 c11
  have K1 : Hid (Var ((((((((((((w2.setCell ⟨w.heap.size + 1, 0, none⟩ (.int .i64 l.head.age)).setCell ⟨w.heap.size + 1, 1, none⟩ (.int .i64 l.head.kind)).setCell ⟨w.heap.size + 1, 2, none⟩ (.int .i64 l.head.id)).setCell ⟨w.heap.size + 1, 3, none⟩ (.int .i64 l.head.adv)).setCell ⟨w.heap.size + 1, 4, none⟩ (.int .i64 l.head.seq)).setCell ⟨w.heap.size + 1, 5, none⟩ (.int .i64 l.head.sum)).setCell ⟨w.heap.size + 1, 6, none⟩ (.int .i64 l.head.len)).setCell ⟨w.heap.size + 1, 7, none⟩ (.int .i64 l.flags)).setCell ⟨w.heap.size + 1, 8, none⟩ (.slice s1.la l.links.length s1.lc)).setCell ⟨w.heap.size + 1, 9, none⟩ (.int .i64 l.bits)).setCell ⟨w.heap.size + 1, 10, none⟩ (.slice s1.ra l.routers.length s1.rc)).setCell ⟨w.heap.size + 1, 11, none⟩ (.slice s1.va l.verts.length s1.vc)) (w.heap.size + 1) [.int .i64 l.head.age, .int .i64 l.head.kind, .int .i64 l.head.id, .int .i64 l.head.adv, .int .i64 l.head.seq, .int .i64 l.head.sum, .int .i64 l.head.len, .int .i64 l.flags, .slice s1.la l.links.length s1.lc, .int .i64 l.bits, .slice s1.ra l.routers.length s1.rc, .slice s1.va l.verts.length s1.vc]) := HR.out.put12 (.int .i64 l.head.age) (.int .i64 l.head.kind) (.int .i64 l.head.id) (.int .i64 l.head.adv) (.int .i64 l.head.seq) (.int .i64 l.head.sum) (.int .i64 l.head.len) (.int .i64 l.flags) (.slice s1.la l.links.length s1.lc) (.int .i64 l.bits) (.slice s1.ra l.routers.length s1.rc) (.slice s1.va l.verts.length s1.vc)
  have K3 : Hid (Below w.heap.size w ((((((((((((w2.setCell ⟨w.heap.size + 1, 0, none⟩ (.int .i64 l.head.age)).setCell ⟨w.heap.size + 1, 1, none⟩ (.int .i64 l.head.kind)).setCell ⟨w.heap.size + 1, 2, none⟩ (.int .i64 l.head.id)).setCell ⟨w.heap.size + 1, 3, none⟩ (.int .i64 l.head.adv)).setCell ⟨w.heap.size + 1, 4, none⟩ (.int .i64 l.head.seq)).setCell ⟨w.heap.size + 1, 5, none⟩ (.int .i64 l.head.sum)).setCell ⟨w.heap.size + 1, 6, none⟩ (.int .i64 l.head.len)).setCell ⟨w.heap.size + 1, 7, none⟩ (.int .i64 l.flags)).setCell ⟨w.heap.size + 1, 8, none⟩ (.slice s1.la l.links.length s1.lc)).setCell ⟨w.heap.size + 1, 9, none⟩ (.int .i64 l.bits)).setCell ⟨w.heap.size + 1, 10, none⟩ (.slice s1.ra l.routers.length s1.rc)).setCell ⟨w.heap.size + 1, 11, none⟩ (.slice s1.va l.verts.length s1.vc))) := below_put12 HB.out (by omega) (.int .i64 l.head.age) (.int .i64 l.head.kind) (.int .i64 l.head.id) (.int .i64 l.head.adv) (.int .i64 l.head.seq) (.int .i64 l.head.sum) (.int .i64 l.head.len) (.int .i64 l.flags) (.slice s1.la l.links.length s1.lc) (.int .i64 l.bits) (.slice s1.ra l.routers.length s1.rc) (.slice s1.va l.verts.length s1.vc)
  have K4 : Hid (Held ((((((((((((w2.setCell ⟨w.heap.size + 1, 0, none⟩ (.int .i64 l.head.age)).setCell ⟨w.heap.size + 1, 1, none⟩ (.int .i64 l.head.kind)).setCell ⟨w.heap.size + 1, 2, none⟩ (.int .i64 l.head.id)).setCell ⟨w.heap.size + 1, 3, none⟩ (.int .i64 l.head.adv)).setCell ⟨w.heap.size + 1, 4, none⟩ (.int .i64 l.head.seq)).setCell ⟨w.heap.size + 1, 5, none⟩ (.int .i64 l.head.sum)).setCell ⟨w.heap.size + 1, 6, none⟩ (.int .i64 l.head.len)).setCell ⟨w.heap.size + 1, 7, none⟩ (.int .i64 l.flags)).setCell ⟨w.heap.size + 1, 8, none⟩ (.slice s1.la l.links.length s1.lc)).setCell ⟨w.heap.size + 1, 9, none⟩ (.int .i64 l.bits)).setCell ⟨w.heap.size + 1, 10, none⟩ (.slice s1.ra l.routers.length s1.rc)).setCell ⟨w.heap.size + 1, 11, none⟩ (.slice s1.va l.verts.length s1.vc)) s1 l) := HH1.out.put12 HFA.out (by omega) (.int .i64 l.head.age) (.int .i64 l.head.kind) (.int .i64 l.head.id) (.int .i64 l.head.adv) (.int .i64 l.head.seq) (.int .i64 l.head.sum) (.int .i64 l.head.len) (.int .i64 l.flags) (.slice s1.la l.links.length s1.lc) (.int .i64 l.bits) (.slice s1.ra l.routers.length s1.rc) (.slice s1.va l.verts.length s1.vc)
  have c0 := HV.out.cell 0 rfl
  have c1 := HV.out.cell 1 rfl
  have c2 := HV.out.cell 2 rfl
  have c3 := HV.out.cell 3 rfl
  have c4 := HV.out.cell 4 rfl
  have c5 := HV.out.cell 5 rfl
  have c6 := HV.out.cell 6 rfl
  have c7 := HV.out.cell 7 rfl
  have c8 := HV.out.cell 8 rfl
  have c9 := HV.out.cell 9 rfl
  have c10 := HV.out.cell 10 rfl
  have c11 := HV.out.cell 11 rfl
  have r0 := HR.out.cell 0 rfl
  have q0 := HR.out.frozen 0
  have r1 := HR.out.cell 1 rfl
  have q1 := HR.out.frozen 1
  have r2 := HR.out.cell 2 rfl
  have q2 := HR.out.frozen 2
  have r3 := HR.out.cell 3 rfl
  have q3 := HR.out.frozen 3
  have r4 := HR.out.cell 4 rfl
  have q4 := HR.out.frozen 4
  have r5 := HR.out.cell 5 rfl
  have q5 := HR.out.frozen 5
  have r6 := HR.out.cell 6 rfl
  have q6 := HR.out.frozen 6
  have r7 := HR.out.cell 7 rfl
  have q7 := HR.out.frozen 7
  have r8 := HR.out.cell 8 rfl
  have q8 := HR.out.frozen 8
  have r9 := HR.out.cell 9 rfl
  have q9 := HR.out.frozen 9
  have r10 := HR.out.cell 10 rfl
  have q10 := HR.out.frozen 10
  have r11 := HR.out.cell 11 rfl
  have q11 := HR.out.frozen 11
  go_wp2
  clear c0 c1 c2 c3 c4 c5 c6 c7 c8 c9 c10 c11 r0 r1 r2 r3 r4 r5 r6 r7 r8 r9 r10 r11 q0 q1 q2 q3 q4 q5 q6 q7 q8 q9 q10 q11
  generalize ((((((((((((w2.setCell ⟨w.heap.size + 1, 0, none⟩ (.int .i64 l.head.age)).setCell ⟨w.heap.size + 1, 1, none⟩ (.int .i64 l.head.kind)).setCell ⟨w.heap.size + 1, 2, none⟩ (.int .i64 l.head.id)).setCell ⟨w.heap.size + 1, 3, none⟩ (.int .i64 l.head.adv)).setCell ⟨w.heap.size + 1, 4, none⟩ (.int .i64 l.head.seq)).setCell ⟨w.heap.size + 1, 5, none⟩ (.int .i64 l.head.sum)).setCell ⟨w.heap.size + 1, 6, none⟩ (.int .i64 l.head.len)).setCell ⟨w.heap.size + 1, 7, none⟩ (.int .i64 l.flags)).setCell ⟨w.heap.size + 1, 8, none⟩ (.slice s1.la l.links.length s1.lc)).setCell ⟨w.heap.size + 1, 9, none⟩ (.int .i64 l.bits)).setCell ⟨w.heap.size + 1, 10, none⟩ (.slice s1.ra l.routers.length s1.rc)).setCell ⟨w.heap.size + 1, 11, none⟩ (.slice s1.va l.verts.length s1.vc)) = Z at *
  have x0 := K1.out.cell 0 rfl
  have x1 := K1.out.cell 1 rfl
  have x2 := K1.out.cell 2 rfl
  have x3 := K1.out.cell 3 rfl
  have x4 := K1.out.cell 4 rfl
  have x5 := K1.out.cell 5 rfl
  have x6 := K1.out.cell 6 rfl
  have x7 := K1.out.cell 7 rfl
  have x8 := K1.out.cell 8 rfl
  have x9 := K1.out.cell 9 rfl
  have x10 := K1.out.cell 10 rfl
  have x11 := K1.out.cell 11 rfl
  refine bodyPost_ret (by simp [results, Try.results25, go_sem, x0, x1, x2, x3, x4, x5, x6, x7, x8, x9, x10, x11]; try rfl) rfl ?_
  exact ⟨s1, rfl, K4.out, HN1.out, K3.out, HFA.out.1.mono (by omega), HFA.out.2.1.mono (by omega), HFA.out.2.2.mono (by omega)⟩
set_option maxHeartbeats 3200000 in
set_option maxRecDepth 20000 in
theorem dSeal_yes (s : Seats) (l : LsaZ) (w : World) (hH : Held w s l) (hf : Mid l) (hN : Nils s) (hr : rightLsaB l = true) :
    Calls Try.prog 25 #[.agg (lsaA s l)] w (CopyEnd w (withHead l (sealH l))) := by
  have HV : Hid (Var ((w.alloc (.cells (lsaA s l) 39)).alloc (.cells zero12.toArray 39)) w.heap.size [.int .i64 l.head.age, .int .i64 l.head.kind, .int .i64 l.head.id, .int .i64 l.head.adv, .int .i64 l.head.seq, .int .i64 l.head.sum, .int .i64 l.head.len, .int .i64 l.flags, .slice s.la l.links.length s.lc, .int .i64 l.bits, .slice s.ra l.routers.length s.rc, .slice s.va l.verts.length s.vc]) := (var_new w (lsaL s l) _).alloc _
  have HR : Hid (Var ((w.alloc (.cells (lsaA s l) 39)).alloc (.cells zero12.toArray 39)) (w.heap.size + 1) zero12) := by
    have := var_new (w.alloc (.cells (lsaA s l) 39)) zero12 39
    rw [size_new] at this; exact this
  have HB : Hid (Below w.heap.size w ((w.alloc (.cells (lsaA s l) 39)).alloc (.cells zero12.toArray 39))) := (below_new' _ _).alloc (by simp) _
  have HH : Hid (Held w s l) := hH
  have HMI : Hid (Mid l) := hf
  have HNI : Hid (Nils s) := hN
  have HRI : Hid (rightLsaB l = _) := hr
  clear hH hf hN hr
  go_enter Try.func25, Try.ntmps25
  go_upto_region 1 with fail
  generalize ((w.alloc (.cells (lsaA s l) 39)).alloc (.cells zero12.toArray 39)) = U0 at *
  have c0 := HV.out.cell 0 rfl
  have c1 := HV.out.cell 1 rfl
  have c2 := HV.out.cell 2 rfl
  have c3 := HV.out.cell 3 rfl
  have c4 := HV.out.cell 4 rfl
  have c5 := HV.out.cell 5 rfl
  have c6 := HV.out.cell 6 rfl
  have c7 := HV.out.cell 7 rfl
  have c8 := HV.out.cell 8 rfl
  have c9 := HV.out.cell 9 rfl
  have c10 := HV.out.cell 10 rfl
  have c11 := HV.out.cell 11 rfl
  go_wp2_with fail
  refine (dCopy_any s l U0 (HH.out.below HB.out) HMI.out HNI.out).mono ?_
  rintro e w1 ⟨s1, rfl, hh, hn, hb, hfar⟩
  have HLT : Hid (w.heap.size < U0.heap.size) := HV.out.lt
  have HFA : Hid (Far (w.heap.size + 2) s1.la ∧ Far (w.heap.size + 2) s1.ra ∧ Far (w.heap.size + 2) s1.va) := ⟨hfar.1.mono HR.out.lt, hfar.2.1.mono HR.out.lt, hfar.2.2.mono HR.out.lt⟩
  replace HV : Hid (Var w1 w.heap.size [.int .i64 l.head.age, .int .i64 l.head.kind, .int .i64 l.head.id, .int .i64 l.head.adv, .int .i64 l.head.seq, .int .i64 l.head.sum, .int .i64 l.head.len, .int .i64 l.flags, .slice s.la l.links.length s.lc, .int .i64 l.bits, .slice s.ra l.routers.length s.rc, .slice s.va l.verts.length s.vc]) := HV.out.below hb HV.out.lt
  replace HR : Hid (Var w1 (w.heap.size + 1) zero12) := HR.out.below hb HR.out.lt
  replace HB : Hid (Below w.heap.size w w1) := below_more HB.out hb HB.out.size
  have HH1 : Hid (Held w1 s1 l) := hh
  have HN1 : Hid (Nils s1) := hn
  clear hh hn hb hfar c0 c1 c2 c3 c4 c5 c6 c7 c8 c9 c10 c11
  have K1 : Hid (Var ((((((((((((w1.setCell ⟨w.heap.size, 0, none⟩ (.int .i64 l.head.age)).setCell ⟨w.heap.size, 1, none⟩ (.int .i64 l.head.kind)).setCell ⟨w.heap.size, 2, none⟩ (.int .i64 l.head.id)).setCell ⟨w.heap.size, 3, none⟩ (.int .i64 l.head.adv)).setCell ⟨w.heap.size, 4, none⟩ (.int .i64 l.head.seq)).setCell ⟨w.heap.size, 5, none⟩ (.int .i64 l.head.sum)).setCell ⟨w.heap.size, 6, none⟩ (.int .i64 l.head.len)).setCell ⟨w.heap.size, 7, none⟩ (.int .i64 l.flags)).setCell ⟨w.heap.size, 8, none⟩ (.slice s1.la l.links.length s1.lc)).setCell ⟨w.heap.size, 9, none⟩ (.int .i64 l.bits)).setCell ⟨w.heap.size, 10, none⟩ (.slice s1.ra l.routers.length s1.rc)).setCell ⟨w.heap.size, 11, none⟩ (.slice s1.va l.verts.length s1.vc)) w.heap.size [.int .i64 l.head.age, .int .i64 l.head.kind, .int .i64 l.head.id, .int .i64 l.head.adv, .int .i64 l.head.seq, .int .i64 l.head.sum, .int .i64 l.head.len, .int .i64 l.flags, .slice s1.la l.links.length s1.lc, .int .i64 l.bits, .slice s1.ra l.routers.length s1.rc, .slice s1.va l.verts.length s1.vc]) := HV.out.put12 (.int .i64 l.head.age) (.int .i64 l.head.kind) (.int .i64 l.head.id) (.int .i64 l.head.adv) (.int .i64 l.head.seq) (.int .i64 l.head.sum) (.int .i64 l.head.len) (.int .i64 l.flags) (.slice s1.la l.links.length s1.lc) (.int .i64 l.bits) (.slice s1.ra l.routers.length s1.rc) (.slice s1.va l.verts.length s1.vc)
  have K2 : Hid (Var ((((((((((((w1.setCell ⟨w.heap.size, 0, none⟩ (.int .i64 l.head.age)).setCell ⟨w.heap.size, 1, none⟩ (.int .i64 l.head.kind)).setCell ⟨w.heap.size, 2, none⟩ (.int .i64 l.head.id)).setCell ⟨w.heap.size, 3, none⟩ (.int .i64 l.head.adv)).setCell ⟨w.heap.size, 4, none⟩ (.int .i64 l.head.seq)).setCell ⟨w.heap.size, 5, none⟩ (.int .i64 l.head.sum)).setCell ⟨w.heap.size, 6, none⟩ (.int .i64 l.head.len)).setCell ⟨w.heap.size, 7, none⟩ (.int .i64 l.flags)).setCell ⟨w.heap.size, 8, none⟩ (.slice s1.la l.links.length s1.lc)).setCell ⟨w.heap.size, 9, none⟩ (.int .i64 l.bits)).setCell ⟨w.heap.size, 10, none⟩ (.slice s1.ra l.routers.length s1.rc)).setCell ⟨w.heap.size, 11, none⟩ (.slice s1.va l.verts.length s1.vc)) (w.heap.size + 1) zero12) := HR.out.put12' (by omega) (.int .i64 l.head.age) (.int .i64 l.head.kind) (.int .i64 l.head.id) (.int .i64 l.head.adv) (.int .i64 l.head.seq) (.int .i64 l.head.sum) (.int .i64 l.head.len) (.int .i64 l.flags) (.slice s1.la l.links.length s1.lc) (.int .i64 l.bits) (.slice s1.ra l.routers.length s1.rc) (.slice s1.va l.verts.length s1.vc)
  have K3 : Hid (Below w.heap.size w ((((((((((((w1.setCell ⟨w.heap.size, 0, none⟩ (.int .i64 l.head.age)).setCell ⟨w.heap.size, 1, none⟩ (.int .i64 l.head.kind)).setCell ⟨w.heap.size, 2, none⟩ (.int .i64 l.head.id)).setCell ⟨w.heap.size, 3, none⟩ (.int .i64 l.head.adv)).setCell ⟨w.heap.size, 4, none⟩ (.int .i64 l.head.seq)).setCell ⟨w.heap.size, 5, none⟩ (.int .i64 l.head.sum)).setCell ⟨w.heap.size, 6, none⟩ (.int .i64 l.head.len)).setCell ⟨w.heap.size, 7, none⟩ (.int .i64 l.flags)).setCell ⟨w.heap.size, 8, none⟩ (.slice s1.la l.links.length s1.lc)).setCell ⟨w.heap.size, 9, none⟩ (.int .i64 l.bits)).setCell ⟨w.heap.size, 10, none⟩ (.slice s1.ra l.routers.length s1.rc)).setCell ⟨w.heap.size, 11, none⟩ (.slice s1.va l.verts.length s1.vc))) := below_put12 HB.out (Nat.le_refl _) (.int .i64 l.head.age) (.int .i64 l.head.kind) (.int .i64 l.head.id) (.int .i64 l.head.adv) (.int .i64 l.head.seq) (.int .i64 l.head.sum) (.int .i64 l.head.len) (.int .i64 l.flags) (.slice s1.la l.links.length s1.lc) (.int .i64 l.bits) (.slice s1.ra l.routers.length s1.rc) (.slice s1.va l.verts.length s1.vc)
  have K4 : Hid (Held ((((((((((((w1.setCell ⟨w.heap.size, 0, none⟩ (.int .i64 l.head.age)).setCell ⟨w.heap.size, 1, none⟩ (.int .i64 l.head.kind)).setCell ⟨w.heap.size, 2, none⟩ (.int .i64 l.head.id)).setCell ⟨w.heap.size, 3, none⟩ (.int .i64 l.head.adv)).setCell ⟨w.heap.size, 4, none⟩ (.int .i64 l.head.seq)).setCell ⟨w.heap.size, 5, none⟩ (.int .i64 l.head.sum)).setCell ⟨w.heap.size, 6, none⟩ (.int .i64 l.head.len)).setCell ⟨w.heap.size, 7, none⟩ (.int .i64 l.flags)).setCell ⟨w.heap.size, 8, none⟩ (.slice s1.la l.links.length s1.lc)).setCell ⟨w.heap.size, 9, none⟩ (.int .i64 l.bits)).setCell ⟨w.heap.size, 10, none⟩ (.slice s1.ra l.routers.length s1.rc)).setCell ⟨w.heap.size, 11, none⟩ (.slice s1.va l.verts.length s1.vc)) s1 l) := HH1.out.put12 HFA.out (by omega) (.int .i64 l.head.age) (.int .i64 l.head.kind) (.int .i64 l.head.id) (.int .i64 l.head.adv) (.int .i64 l.head.seq) (.int .i64 l.head.sum) (.int .i64 l.head.len) (.int .i64 l.flags) (.slice s1.la l.links.length s1.lc) (.int .i64 l.bits) (.slice s1.ra l.routers.length s1.rc) (.slice s1.va l.verts.length s1.vc)
  have r0 := HV.out.cell 0 rfl
  have q0 := HV.out.frozen 0
  have r1 := HV.out.cell 1 rfl
  have q1 := HV.out.frozen 1
  have r2 := HV.out.cell 2 rfl
  have q2 := HV.out.frozen 2
  have r3 := HV.out.cell 3 rfl
  have q3 := HV.out.frozen 3
  have r4 := HV.out.cell 4 rfl
  have q4 := HV.out.frozen 4
  have r5 := HV.out.cell 5 rfl
  have q5 := HV.out.frozen 5
  have r6 := HV.out.cell 6 rfl
  have q6 := HV.out.frozen 6
  have r7 := HV.out.cell 7 rfl
  have q7 := HV.out.frozen 7
  have r8 := HV.out.cell 8 rfl
  have q8 := HV.out.frozen 8
  have r9 := HV.out.cell 9 rfl
  have q9 := HV.out.frozen 9
  have r10 := HV.out.cell 10 rfl
  have q10 := HV.out.frozen 10
  have r11 := HV.out.cell 11 rfl
  have q11 := HV.out.frozen 11
  go_upto_region 2 with fail
  generalize ((((((((((((w1.setCell ⟨w.heap.size, 0, none⟩ (.int .i64 l.head.age)).setCell ⟨w.heap.size, 1, none⟩ (.int .i64 l.head.kind)).setCell ⟨w.heap.size, 2, none⟩ (.int .i64 l.head.id)).setCell ⟨w.heap.size, 3, none⟩ (.int .i64 l.head.adv)).setCell ⟨w.heap.size, 4, none⟩ (.int .i64 l.head.seq)).setCell ⟨w.heap.size, 5, none⟩ (.int .i64 l.head.sum)).setCell ⟨w.heap.size, 6, none⟩ (.int .i64 l.head.len)).setCell ⟨w.heap.size, 7, none⟩ (.int .i64 l.flags)).setCell ⟨w.heap.size, 8, none⟩ (.slice s1.la l.links.length s1.lc)).setCell ⟨w.heap.size, 9, none⟩ (.int .i64 l.bits)).setCell ⟨w.heap.size, 10, none⟩ (.slice s1.ra l.routers.length s1.rc)).setCell ⟨w.heap.size, 11, none⟩ (.slice s1.va l.verts.length s1.vc)) = U1 at *
  clear r0 r1 r2 r3 r4 r5 r6 r7 r8 r9 r10 r11 q0 q1 q2 q3 q4 q5 q6 q7 q8 q9 q10 q11 HV HR HB HH1
  have c0 := K1.out.cell 0 rfl
  have c1 := K1.out.cell 1 rfl
  have c2 := K1.out.cell 2 rfl
  have c3 := K1.out.cell 3 rfl
  have c4 := K1.out.cell 4 rfl
  have c5 := K1.out.cell 5 rfl
  have c6 := K1.out.cell 6 rfl
  have c7 := K1.out.cell 7 rfl
  have c8 := K1.out.cell 8 rfl
  have c9 := K1.out.cell 9 rfl
  have c10 := K1.out.cell 10 rfl
  have c11 := K1.out.cell 11 rfl
  go_wp2_with fail
  refine (rrightLsa_any s1 l U1 K4.out HMI.out.fits).mono ?_
  rintro e w2 ⟨rfl, hb⟩
  rw [HRI.out]
  have HV : Hid (Var w2 w.heap.size [.int .i64 l.head.age, .int .i64 l.head.kind, .int .i64 l.head.id, .int .i64 l.head.adv, .int .i64 l.head.seq, .int .i64 l.head.sum, .int .i64 l.head.len, .int .i64 l.flags, .slice s1.la l.links.length s1.lc, .int .i64 l.bits, .slice s1.ra l.routers.length s1.rc, .slice s1.va l.verts.length s1.vc]) := K1.out.below hb K1.out.lt
  have HR : Hid (Var w2 (w.heap.size + 1) zero12) := K2.out.below hb K2.out.lt
  have HB : Hid (Below w.heap.size w w2) := below_more K3.out hb K3.out.size
  have HH1 : Hid (Held w2 s1 l) := K4.out.below hb
  clear hb K1 K2 K3 K4 c0 c1 c2 c3 c4 c5 c6 c7 c8 c9 c10 c11
  go_upto_region 4 with fail
  have cc := HV.out.cell 5 rfl
  have zz := HV.out.frozen 5
  replace HV : Hid (Var (w2.setCell ⟨w.heap.size, 5, none⟩ (.int .i64 0)) w.heap.size [.int .i64 l.head.age, .int .i64 l.head.kind, .int .i64 l.head.id, .int .i64 l.head.adv, .int .i64 l.head.seq, .int .i64 0, .int .i64 l.head.len, .int .i64 l.flags, .slice s1.la l.links.length s1.lc, .int .i64 l.bits, .slice s1.ra l.routers.length s1.rc, .slice s1.va l.verts.length s1.vc]) := HV.out.set 5 _
  replace HR : Hid (Var (w2.setCell ⟨w.heap.size, 5, none⟩ (.int .i64 0)) (w.heap.size + 1) zero12) := HR.out.other (by omega) _ _
  replace HB : Hid (Below w.heap.size w (w2.setCell ⟨w.heap.size, 5, none⟩ (.int .i64 0))) := HB.out.setCell (p := ⟨w.heap.size, 5, none⟩) (Nat.le_refl _) _
  replace HH1 : Hid (Held (w2.setCell ⟨w.heap.size, 5, none⟩ (.int .i64 0)) s1 l) := HH1.out.setAt (p := ⟨w.heap.size, 5, none⟩) HFA.out (by show w.heap.size < w.heap.size + 2; omega) _
  go_upto_region 5 with fail
  generalize (w2.setCell ⟨w.heap.size, 5, none⟩ (.int .i64 0)) = U2 at *
  clear cc zz
  have cc := HV.out.cell 6 rfl
  have zz := HV.out.frozen 6
  replace HV : Hid (Var (U2.setCell ⟨w.heap.size, 6, none⟩ (.int .i64 0)) w.heap.size [.int .i64 l.head.age, .int .i64 l.head.kind, .int .i64 l.head.id, .int .i64 l.head.adv, .int .i64 l.head.seq, .int .i64 0, .int .i64 0, .int .i64 l.flags, .slice s1.la l.links.length s1.lc, .int .i64 l.bits, .slice s1.ra l.routers.length s1.rc, .slice s1.va l.verts.length s1.vc]) := HV.out.set 6 _
  replace HR : Hid (Var (U2.setCell ⟨w.heap.size, 6, none⟩ (.int .i64 0)) (w.heap.size + 1) zero12) := HR.out.other (by omega) _ _
  replace HB : Hid (Below w.heap.size w (U2.setCell ⟨w.heap.size, 6, none⟩ (.int .i64 0))) := HB.out.setCell (p := ⟨w.heap.size, 6, none⟩) (Nat.le_refl _) _
  replace HH1 : Hid (Held (U2.setCell ⟨w.heap.size, 6, none⟩ (.int .i64 0)) s1 l) := HH1.out.setAt (p := ⟨w.heap.size, 6, none⟩) HFA.out (by show w.heap.size < w.heap.size + 2; omega) _
  go_upto_region 6 with fail
  generalize (U2.setCell ⟨w.heap.size, 6, none⟩ (.int .i64 0)) = U3 at *
  clear cc zz
  have c0 := HV.out.cell 0 rfl
  have c1 := HV.out.cell 1 rfl
  have c2 := HV.out.cell 2 rfl
  have c3 := HV.out.cell 3 rfl
  have c4 := HV.out.cell 4 rfl
  have c5 := HV.out.cell 5 rfl
  have c6 := HV.out.cell 6 rfl
  have c7 := HV.out.cell 7 rfl
  have c8 := HV.out.cell 8 rfl
  have c9 := HV.out.cell 9 rfl
  have c10 := HV.out.cell 10 rfl
  have c11 := HV.out.cell 11 rfl
  have hby := dbytes_any s1 (LsaZ.mk (HeadZ.mk l.head.age l.head.kind l.head.id l.head.adv l.head.seq 0 0) l.flags l.links l.bits l.routers l.verts) U3 ⟨HH1.out.hl, HH1.out.hr, HH1.out.hv⟩ ⟨HMI.out.hl, HMI.out.hr, HMI.out.hv⟩
  dsimp only [lsaA] at hby
  go_wp2_with fail
  refine hby.mono ?_
  rintro e w4 ⟨g4, cpg4, rfl, ho, hb⟩
  have hln := doc_len l 0 0
  obtain ⟨m4, hm4⟩ : ∃ m4, (layZ (LsaZ.mk (HeadZ.mk l.head.age l.head.kind l.head.id l.head.adv l.head.seq 0 0) l.flags l.links l.bits l.routers l.verts)).length = m4 := ⟨_, rfl⟩
  have hm4b : m4 ≤ 13000000 := by rw [← hm4]; exact lay_fits ⟨HMI.out.hl, HMI.out.hr, HMI.out.hv⟩
  rw [hm4] at hln
  rw [hm4]
  have HLN : Hid ((m4 : Int) = (sealH l).len) := hln
  replace HV : Hid (Var w4 w.heap.size [.int .i64 l.head.age, .int .i64 l.head.kind, .int .i64 l.head.id, .int .i64 l.head.adv, .int .i64 l.head.seq, .int .i64 0, .int .i64 0, .int .i64 l.flags, .slice s1.la l.links.length s1.lc, .int .i64 l.bits, .slice s1.ra l.routers.length s1.rc, .slice s1.va l.verts.length s1.vc]) := HV.out.below hb HV.out.lt
  replace HR : Hid (Var w4 (w.heap.size + 1) zero12) := HR.out.below hb HR.out.lt
  replace HB : Hid (Below w.heap.size w w4) := below_more HB.out hb HB.out.size
  replace HH1 : Hid (Held w4 s1 l) := HH1.out.below hb
  clear ho hb hby hm4 hln c0 c1 c2 c3 c4 c5 c6 c7 c8 c9 c10 c11
  have cc := HV.out.cell 6 rfl
  have zz := HV.out.frozen 6
  replace HV : Hid (Var (w4.setCell ⟨w.heap.size, 6, none⟩ (.int .i64 (m4 : Int))) w.heap.size [.int .i64 l.head.age, .int .i64 l.head.kind, .int .i64 l.head.id, .int .i64 l.head.adv, .int .i64 l.head.seq, .int .i64 0, .int .i64 (m4 : Int), .int .i64 l.flags, .slice s1.la l.links.length s1.lc, .int .i64 l.bits, .slice s1.ra l.routers.length s1.rc, .slice s1.va l.verts.length s1.vc]) := HV.out.set 6 _
  replace HR : Hid (Var (w4.setCell ⟨w.heap.size, 6, none⟩ (.int .i64 (m4 : Int))) (w.heap.size + 1) zero12) := HR.out.other (by omega) _ _
  replace HB : Hid (Below w.heap.size w (w4.setCell ⟨w.heap.size, 6, none⟩ (.int .i64 (m4 : Int)))) := HB.out.setCell (p := ⟨w.heap.size, 6, none⟩) (Nat.le_refl _) _
  replace HH1 : Hid (Held (w4.setCell ⟨w.heap.size, 6, none⟩ (.int .i64 (m4 : Int))) s1 l) := HH1.out.setAt (p := ⟨w.heap.size, 6, none⟩) HFA.out (by show w.heap.size < w.heap.size + 2; omega) _
  go_upto_region 7 with fail
  generalize (w4.setCell ⟨w.heap.size, 6, none⟩ (.int .i64 (m4 : Int))) = U4 at *
  clear cc zz
  have c0 := HV.out.cell 0 rfl
  have c1 := HV.out.cell 1 rfl
  have c2 := HV.out.cell 2 rfl
  have c3 := HV.out.cell 3 rfl
  have c4 := HV.out.cell 4 rfl
  have c5 := HV.out.cell 5 rfl
  have c6 := HV.out.cell 6 rfl
  have c7 := HV.out.cell 7 rfl
  have c8 := HV.out.cell 8 rfl
  have c9 := HV.out.cell 9 rfl
  have c10 := HV.out.cell 10 rfl
  have c11 := HV.out.cell 11 rfl
  have hby := dbytes_any s1 (LsaZ.mk (HeadZ.mk l.head.age l.head.kind l.head.id l.head.adv l.head.seq 0 (m4 : Int)) l.flags l.links l.bits l.routers l.verts) U4 ⟨HH1.out.hl, HH1.out.hr, HH1.out.hv⟩ ⟨HMI.out.hl, HMI.out.hr, HMI.out.hv⟩
  dsimp only [lsaA] at hby
  go_wp2_with fail
  refine hby.mono ?_
  rintro e w5 ⟨g5, cpg5, rfl, ho, hb⟩
  have hsm := doc_sum l (m4 : Int) HLN.out
  have hmn := lay_min (LsaZ.mk (HeadZ.mk l.head.age l.head.kind l.head.id l.head.adv l.head.seq 0 (m4 : Int)) l.flags l.links l.bits l.routers l.verts)
  have hmx := lay_fits (l := (LsaZ.mk (HeadZ.mk l.head.age l.head.kind l.head.id l.head.adv l.head.seq 0 (m4 : Int)) l.flags l.links l.bits l.routers l.verts)) ⟨HMI.out.hl, HMI.out.hr, HMI.out.hv⟩
  have hbd := layZ_bd (LsaZ.mk (HeadZ.mk l.head.age l.head.kind l.head.id l.head.adv l.head.seq 0 (m4 : Int)) l.flags l.links l.bits l.routers l.verts)
  generalize layZ (LsaZ.mk (HeadZ.mk l.head.age l.head.kind l.head.id l.head.adv l.head.seq 0 (m4 : Int)) l.flags l.links l.bits l.routers l.verts) = bs at *
  have hcap := ho.cap
  have hc2 : ¬ cpg5 = 2 := by omega
  have hc2' : (2 : Int) ≤ (cpg5 : Int) := by omega
  have hB2 : Bts w5 (some ⟨g5, 2, none⟩) (bs.drop 2) := by have h := bts_drop (k := 2) ho.bts; rwa [Nat.zero_add] at h
  have hpr := rpair_at (some ⟨g5, 2, none⟩) (bs.length - 2) (cpg5 - 2) (bs.drop 2) 14 w5 (by simp) hB2 (areBytes_drop hbd 2) (by simp; omega)
  rw [hsm] at hpr
  obtain ⟨SM, hSM⟩ : ∃ SM, (sealH l).sum = SM := ⟨_, rfl⟩
  have HSM : Hid ((sealH l).sum = SM) := hSM
  rw [hSM] at hpr
  clear hSM
  replace HV : Hid (Var w5 w.heap.size [.int .i64 l.head.age, .int .i64 l.head.kind, .int .i64 l.head.id, .int .i64 l.head.adv, .int .i64 l.head.seq, .int .i64 0, .int .i64 (m4 : Int), .int .i64 l.flags, .slice s1.la l.links.length s1.lc, .int .i64 l.bits, .slice s1.ra l.routers.length s1.rc, .slice s1.va l.verts.length s1.vc]) := HV.out.below hb HV.out.lt
  replace HR : Hid (Var w5 (w.heap.size + 1) zero12) := HR.out.below hb HR.out.lt
  replace HB : Hid (Below w.heap.size w w5) := below_more HB.out hb HB.out.size
  replace HH1 : Hid (Held w5 s1 l) := HH1.out.below hb
  clear ho hb hby hsm hbd hB2 c0 c1 c2 c3 c4 c5 c6 c7 c8 c9 c10 c11
  go_wp2_with fail
  refine hpr.mono ?_
  rintro e w6 ⟨rfl, hb⟩
  replace HV : Hid (Var w6 w.heap.size [.int .i64 l.head.age, .int .i64 l.head.kind, .int .i64 l.head.id, .int .i64 l.head.adv, .int .i64 l.head.seq, .int .i64 0, .int .i64 (m4 : Int), .int .i64 l.flags, .slice s1.la l.links.length s1.lc, .int .i64 l.bits, .slice s1.ra l.routers.length s1.rc, .slice s1.va l.verts.length s1.vc]) := HV.out.below hb HV.out.lt
  replace HR : Hid (Var w6 (w.heap.size + 1) zero12) := HR.out.below hb HR.out.lt
  replace HB : Hid (Below w.heap.size w w6) := below_more HB.out hb HB.out.size
  replace HH1 : Hid (Held w6 s1 l) := HH1.out.below hb
  clear hb hpr
  have cc := HV.out.cell 5 rfl
  have zz := HV.out.frozen 5
  replace HV : Hid (Var (w6.setCell ⟨w.heap.size, 5, none⟩ (.int .i64 SM)) w.heap.size [.int .i64 l.head.age, .int .i64 l.head.kind, .int .i64 l.head.id, .int .i64 l.head.adv, .int .i64 l.head.seq, .int .i64 SM, .int .i64 (m4 : Int), .int .i64 l.flags, .slice s1.la l.links.length s1.lc, .int .i64 l.bits, .slice s1.ra l.routers.length s1.rc, .slice s1.va l.verts.length s1.vc]) := HV.out.set 5 _
  replace HR : Hid (Var (w6.setCell ⟨w.heap.size, 5, none⟩ (.int .i64 SM)) (w.heap.size + 1) zero12) := HR.out.other (by omega) _ _
  replace HB : Hid (Below w.heap.size w (w6.setCell ⟨w.heap.size, 5, none⟩ (.int .i64 SM))) := HB.out.setCell (p := ⟨w.heap.size, 5, none⟩) (Nat.le_refl _) _
  replace HH1 : Hid (Held (w6.setCell ⟨w.heap.size, 5, none⟩ (.int .i64 SM)) s1 l) := HH1.out.setAt (p := ⟨w.heap.size, 5, none⟩) HFA.out (by show w.heap.size < w.heap.size + 2; omega) _
  go_upto_region 8 with fail
  generalize (w6.setCell ⟨w.heap.size, 5, none⟩ (.int .i64 SM)) = U5 at *
  clear cc zz
  have K1 : Hid (Var ((((((((((((U5.setCell ⟨w.heap.size + 1, 0, none⟩ (.int .i64 l.head.age)).setCell ⟨w.heap.size + 1, 1, none⟩ (.int .i64 l.head.kind)).setCell ⟨w.heap.size + 1, 2, none⟩ (.int .i64 l.head.id)).setCell ⟨w.heap.size + 1, 3, none⟩ (.int .i64 l.head.adv)).setCell ⟨w.heap.size + 1, 4, none⟩ (.int .i64 l.head.seq)).setCell ⟨w.heap.size + 1, 5, none⟩ (.int .i64 SM)).setCell ⟨w.heap.size + 1, 6, none⟩ (.int .i64 (m4 : Int))).setCell ⟨w.heap.size + 1, 7, none⟩ (.int .i64 l.flags)).setCell ⟨w.heap.size + 1, 8, none⟩ (.slice s1.la l.links.length s1.lc)).setCell ⟨w.heap.size + 1, 9, none⟩ (.int .i64 l.bits)).setCell ⟨w.heap.size + 1, 10, none⟩ (.slice s1.ra l.routers.length s1.rc)).setCell ⟨w.heap.size + 1, 11, none⟩ (.slice s1.va l.verts.length s1.vc)) (w.heap.size + 1) [.int .i64 l.head.age, .int .i64 l.head.kind, .int .i64 l.head.id, .int .i64 l.head.adv, .int .i64 l.head.seq, .int .i64 SM, .int .i64 (m4 : Int), .int .i64 l.flags, .slice s1.la l.links.length s1.lc, .int .i64 l.bits, .slice s1.ra l.routers.length s1.rc, .slice s1.va l.verts.length s1.vc]) := HR.out.put12 (.int .i64 l.head.age) (.int .i64 l.head.kind) (.int .i64 l.head.id) (.int .i64 l.head.adv) (.int .i64 l.head.seq) (.int .i64 SM) (.int .i64 (m4 : Int)) (.int .i64 l.flags) (.slice s1.la l.links.length s1.lc) (.int .i64 l.bits) (.slice s1.ra l.routers.length s1.rc) (.slice s1.va l.verts.length s1.vc)
  have K3 : Hid (Below w.heap.size w ((((((((((((U5.setCell ⟨w.heap.size + 1, 0, none⟩ (.int .i64 l.head.age)).setCell ⟨w.heap.size + 1, 1, none⟩ (.int .i64 l.head.kind)).setCell ⟨w.heap.size + 1, 2, none⟩ (.int .i64 l.head.id)).setCell ⟨w.heap.size + 1, 3, none⟩ (.int .i64 l.head.adv)).setCell ⟨w.heap.size + 1, 4, none⟩ (.int .i64 l.head.seq)).setCell ⟨w.heap.size + 1, 5, none⟩ (.int .i64 SM)).setCell ⟨w.heap.size + 1, 6, none⟩ (.int .i64 (m4 : Int))).setCell ⟨w.heap.size + 1, 7, none⟩ (.int .i64 l.flags)).setCell ⟨w.heap.size + 1, 8, none⟩ (.slice s1.la l.links.length s1.lc)).setCell ⟨w.heap.size + 1, 9, none⟩ (.int .i64 l.bits)).setCell ⟨w.heap.size + 1, 10, none⟩ (.slice s1.ra l.routers.length s1.rc)).setCell ⟨w.heap.size + 1, 11, none⟩ (.slice s1.va l.verts.length s1.vc))) := below_put12 HB.out (by omega) (.int .i64 l.head.age) (.int .i64 l.head.kind) (.int .i64 l.head.id) (.int .i64 l.head.adv) (.int .i64 l.head.seq) (.int .i64 SM) (.int .i64 (m4 : Int)) (.int .i64 l.flags) (.slice s1.la l.links.length s1.lc) (.int .i64 l.bits) (.slice s1.ra l.routers.length s1.rc) (.slice s1.va l.verts.length s1.vc)
  have K4 : Hid (Held ((((((((((((U5.setCell ⟨w.heap.size + 1, 0, none⟩ (.int .i64 l.head.age)).setCell ⟨w.heap.size + 1, 1, none⟩ (.int .i64 l.head.kind)).setCell ⟨w.heap.size + 1, 2, none⟩ (.int .i64 l.head.id)).setCell ⟨w.heap.size + 1, 3, none⟩ (.int .i64 l.head.adv)).setCell ⟨w.heap.size + 1, 4, none⟩ (.int .i64 l.head.seq)).setCell ⟨w.heap.size + 1, 5, none⟩ (.int .i64 SM)).setCell ⟨w.heap.size + 1, 6, none⟩ (.int .i64 (m4 : Int))).setCell ⟨w.heap.size + 1, 7, none⟩ (.int .i64 l.flags)).setCell ⟨w.heap.size + 1, 8, none⟩ (.slice s1.la l.links.length s1.lc)).setCell ⟨w.heap.size + 1, 9, none⟩ (.int .i64 l.bits)).setCell ⟨w.heap.size + 1, 10, none⟩ (.slice s1.ra l.routers.length s1.rc)).setCell ⟨w.heap.size + 1, 11, none⟩ (.slice s1.va l.verts.length s1.vc)) s1 l) := HH1.out.put12 HFA.out (by omega) (.int .i64 l.head.age) (.int .i64 l.head.kind) (.int .i64 l.head.id) (.int .i64 l.head.adv) (.int .i64 l.head.seq) (.int .i64 SM) (.int .i64 (m4 : Int)) (.int .i64 l.flags) (.slice s1.la l.links.length s1.lc) (.int .i64 l.bits) (.slice s1.ra l.routers.length s1.rc) (.slice s1.va l.verts.length s1.vc)
  have c0 := HV.out.cell 0 rfl
  have c1 := HV.out.cell 1 rfl
  have c2 := HV.out.cell 2 rfl
  have c3 := HV.out.cell 3 rfl
  have c4 := HV.out.cell 4 rfl
  have c5 := HV.out.cell 5 rfl
  have c6 := HV.out.cell 6 rfl
  have c7 := HV.out.cell 7 rfl
  have c8 := HV.out.cell 8 rfl
  have c9 := HV.out.cell 9 rfl
  have c10 := HV.out.cell 10 rfl
  have c11 := HV.out.cell 11 rfl
  have r0 := HR.out.cell 0 rfl
  have q0 := HR.out.frozen 0
  have r1 := HR.out.cell 1 rfl
  have q1 := HR.out.frozen 1
  have r2 := HR.out.cell 2 rfl
  have q2 := HR.out.frozen 2
  have r3 := HR.out.cell 3 rfl
  have q3 := HR.out.frozen 3
  have r4 := HR.out.cell 4 rfl
  have q4 := HR.out.frozen 4
  have r5 := HR.out.cell 5 rfl
  have q5 := HR.out.frozen 5
  have r6 := HR.out.cell 6 rfl
  have q6 := HR.out.frozen 6
  have r7 := HR.out.cell 7 rfl
  have q7 := HR.out.frozen 7
  have r8 := HR.out.cell 8 rfl
  have q8 := HR.out.frozen 8
  have r9 := HR.out.cell 9 rfl
  have q9 := HR.out.frozen 9
  have r10 := HR.out.cell 10 rfl
  have q10 := HR.out.frozen 10
  have r11 := HR.out.cell 11 rfl
  have q11 := HR.out.frozen 11
  go_wp2
  clear c0 c1 c2 c3 c4 c5 c6 c7 c8 c9 c10 c11 r0 r1 r2 r3 r4 r5 r6 r7 r8 r9 r10 r11 q0 q1 q2 q3 q4 q5 q6 q7 q8 q9 q10 q11
  generalize ((((((((((((U5.setCell ⟨w.heap.size + 1, 0, none⟩ (.int .i64 l.head.age)).setCell ⟨w.heap.size + 1, 1, none⟩ (.int .i64 l.head.kind)).setCell ⟨w.heap.size + 1, 2, none⟩ (.int .i64 l.head.id)).setCell ⟨w.heap.size + 1, 3, none⟩ (.int .i64 l.head.adv)).setCell ⟨w.heap.size + 1, 4, none⟩ (.int .i64 l.head.seq)).setCell ⟨w.heap.size + 1, 5, none⟩ (.int .i64 SM)).setCell ⟨w.heap.size + 1, 6, none⟩ (.int .i64 (m4 : Int))).setCell ⟨w.heap.size + 1, 7, none⟩ (.int .i64 l.flags)).setCell ⟨w.heap.size + 1, 8, none⟩ (.slice s1.la l.links.length s1.lc)).setCell ⟨w.heap.size + 1, 9, none⟩ (.int .i64 l.bits)).setCell ⟨w.heap.size + 1, 10, none⟩ (.slice s1.ra l.routers.length s1.rc)).setCell ⟨w.heap.size + 1, 11, none⟩ (.slice s1.va l.verts.length s1.vc)) = Z at *
  have x0 := K1.out.cell 0 rfl
  have x1 := K1.out.cell 1 rfl
  have x2 := K1.out.cell 2 rfl
  have x3 := K1.out.cell 3 rfl
  have x4 := K1.out.cell 4 rfl
  have x5 := K1.out.cell 5 rfl
  have x6 := K1.out.cell 6 rfl
  have x7 := K1.out.cell 7 rfl
  have x8 := K1.out.cell 8 rfl
  have x9 := K1.out.cell 9 rfl
  have x10 := K1.out.cell 10 rfl
  have x11 := K1.out.cell 11 rfl
  refine bodyPost_ret (by simp [results, Try.results25, go_sem, x0, x1, x2, x3, x4, x5, x6, x7, x8, x9, x10, x11]; try rfl) rfl ?_
  refine ⟨s1, ?_, ⟨K4.out.hl, K4.out.hr, K4.out.hv⟩, HN1.out, K3.out, HFA.out.1.mono (by omega), HFA.out.2.1.mono (by omega), HFA.out.2.2.mono (by omega)⟩
  rw [← HSM.out, HLN.out]
  have e1 := sealH_age l
  have e2 := sealH_kind l
  have e3 := sealH_id l
  have e4 := sealH_adv l
  have e5 := sealH_seq l
  rw [← e1, ← e2, ← e3, ← e4, ← e5]
  rfl
theorem dSealF_any (s : Seats) (l : LsaZ) (w : World) (hH : Held w s l) (hf : Mid l) (hN : Nils s) :
    Calls Try.prog 25 #[.agg (lsaA s l)] w (CopyEnd w (sealL l)) := by
  unfold sealL
  cases hr : rightLsaB l with
  | true => rw [if_pos rfl]; exact dSeal_yes s l w hH hf hN hr
  | false => rw [if_neg (by simp)]; exact dSeal_not s l w hH hf hN hr
theorem CopyEnd.seal {w w' : World} {l : LsaZ} {e : Ending} (h : CopyEnd w l e w') : SealEnd w l e w' :=
  let ⟨s', h1, h2, h3, h4, _⟩ := h; ⟨s', h1, h2, h3, h4⟩
theorem dSeal_any (s : Seats) (l : LsaZ) (w : World) (hH : Held w s l) (hf : Mid l) (hN : Nils s) :
    Calls Try.prog 25 #[.agg (lsaA s l)] w (SealEnd w (sealL l)) :=
  (dSealF_any s l w hH hf hN).mono fun _ _ h => h.seal
end Go.Proofs.Ytmcemhkhgccojaa
