/- The document's Get. -/
import Derived.Test.YtmcemhkhgccojaaD8A
import Derived.Test.YtmcemhkhgccojaaS5D5
namespace Go.Proofs.Ytmcemhkhgccojaa
open Go.RowKit
set_option linter.unusedVariables false

set_option maxHeartbeats 3200000 in
set_option maxRecDepth 20000 in
theorem dget_no (N b : Nat) (most : Int) (lv : Value) (L : List Row) (k : KeyZ) (w : World) (h : Keeps w N b most lv L) (ht : thereB L k = false) : Calls Try.prog 14 #[.pointer (some ⟨b, 0, none⟩), .agg (keyV k)] w fun e w' => e = .returned (.tuple #[.agg zero12.toArray, .bool false]) ∧ Below w.heap.size w w' := by
  have CF := fun X (hX : Below w.heap.size w X) => at_any N b most lv L k X (h.below hX)
  rw [show atZ L k = -1 by unfold atZ; rw [ht]; rfl] at CF
  clear h ht
  have HB : Hid (Below w.heap.size w ((w.alloc (.cells (keyV k) 41)).alloc (.cells zero12.toArray 39))) := (below_new' _ _).alloc (by simp) _
  have HK0 : Hid (Var ((w.alloc (.cells (keyV k) 41)).alloc (.cells zero12.toArray 39)) w.heap.size [.int .i64 k.kind, .int .i64 k.id, .int .i64 k.adv]) := (var_new w [.int .i64 k.kind, .int .i64 k.id, .int .i64 k.adv] _).alloc _
  have HR : Hid (Var ((w.alloc (.cells (keyV k) 41)).alloc (.cells zero12.toArray 39)) (w.heap.size + 1) zero12) := by
    have := var_new (w.alloc (.cells (keyV k) 41)) zero12 39
    rw [size_new] at this; exact this
  go_enter Try.func14, Try.ntmps14
  go_upto_region 1 with fail
  generalize (w.alloc (.cells (keyV k) 41)).alloc (.cells zero12.toArray 39) = W at *
  have d0 := HK0.out.cell 0 rfl
  have d1 := HK0.out.cell 1 rfl
  have d2 := HK0.out.cell 2 rfl
  have CF2 := CF W HB.out
  clear CF
  go_wp2_with fail
  refine CF2.mono ?_
  rintro e w2 ⟨rfl, hb⟩
  replace HR : Hid (Var w2 (w.heap.size + 1) zero12) := HR.out.below hb HR.out.lt
  have HB2 : Hid (Below w.heap.size w w2) := below_more HB.out hb HB.out.size
  clear hb d0 d1 d2 CF2 HK0 HB
  have K1 : Hid (Var ((((((((((((w2.setCell ⟨w.heap.size + 1, 0, none⟩ (.int .i64 0)).setCell ⟨w.heap.size + 1, 1, none⟩ (.int .i64 0)).setCell ⟨w.heap.size + 1, 2, none⟩ (.int .i64 0)).setCell ⟨w.heap.size + 1, 3, none⟩ (.int .i64 0)).setCell ⟨w.heap.size + 1, 4, none⟩ (.int .i64 0)).setCell ⟨w.heap.size + 1, 5, none⟩ (.int .i64 0)).setCell ⟨w.heap.size + 1, 6, none⟩ (.int .i64 0)).setCell ⟨w.heap.size + 1, 7, none⟩ (.int .i64 0)).setCell ⟨w.heap.size + 1, 8, none⟩ (.slice none 0 0)).setCell ⟨w.heap.size + 1, 9, none⟩ (.int .i64 0)).setCell ⟨w.heap.size + 1, 10, none⟩ (.slice none 0 0)).setCell ⟨w.heap.size + 1, 11, none⟩ (.slice none 0 0)) (w.heap.size + 1) [(.int .i64 0), (.int .i64 0), (.int .i64 0), (.int .i64 0), (.int .i64 0), (.int .i64 0), (.int .i64 0), (.int .i64 0), (.slice none 0 0), (.int .i64 0), (.slice none 0 0), (.slice none 0 0)]) := HR.out.put12 (.int .i64 0) (.int .i64 0) (.int .i64 0) (.int .i64 0) (.int .i64 0) (.int .i64 0) (.int .i64 0) (.int .i64 0) (.slice none 0 0) (.int .i64 0) (.slice none 0 0) (.slice none 0 0)
  have K2 : Hid (Below w.heap.size w ((((((((((((w2.setCell ⟨w.heap.size + 1, 0, none⟩ (.int .i64 0)).setCell ⟨w.heap.size + 1, 1, none⟩ (.int .i64 0)).setCell ⟨w.heap.size + 1, 2, none⟩ (.int .i64 0)).setCell ⟨w.heap.size + 1, 3, none⟩ (.int .i64 0)).setCell ⟨w.heap.size + 1, 4, none⟩ (.int .i64 0)).setCell ⟨w.heap.size + 1, 5, none⟩ (.int .i64 0)).setCell ⟨w.heap.size + 1, 6, none⟩ (.int .i64 0)).setCell ⟨w.heap.size + 1, 7, none⟩ (.int .i64 0)).setCell ⟨w.heap.size + 1, 8, none⟩ (.slice none 0 0)).setCell ⟨w.heap.size + 1, 9, none⟩ (.int .i64 0)).setCell ⟨w.heap.size + 1, 10, none⟩ (.slice none 0 0)).setCell ⟨w.heap.size + 1, 11, none⟩ (.slice none 0 0))) := below_put12 HB2.out (by omega) (.int .i64 0) (.int .i64 0) (.int .i64 0) (.int .i64 0) (.int .i64 0) (.int .i64 0) (.int .i64 0) (.int .i64 0) (.slice none 0 0) (.int .i64 0) (.slice none 0 0) (.slice none 0 0)
  have r0 := HR.out.cell 0 rfl
  have q0 := HR.out.frozen 0
  have r1 := HR.out.cell 1 rfl
  have q1 := HR.out.frozen 1
  have r2 := HR.out.cell 2 rfl
  have q2 := HR.out.frozen 2
  have r3 := HR.out.cell 3 rfl
  have q3 := HR.out.frozen 3
  have r4 := HR.out.cell 4 rfl
  have q4 := HR.out.frozen 4
  have r5 := HR.out.cell 5 rfl
  have q5 := HR.out.frozen 5
  have r6 := HR.out.cell 6 rfl
  have q6 := HR.out.frozen 6
  have r7 := HR.out.cell 7 rfl
  have q7 := HR.out.frozen 7
  have r8 := HR.out.cell 8 rfl
  have q8 := HR.out.frozen 8
  have r9 := HR.out.cell 9 rfl
  have q9 := HR.out.frozen 9
  have r10 := HR.out.cell 10 rfl
  have q10 := HR.out.frozen 10
  have r11 := HR.out.cell 11 rfl
  have q11 := HR.out.frozen 11
  go_wp2
  clear r0 q0 r1 q1 r2 q2 r3 q3 r4 q4 r5 q5 r6 q6 r7 q7 r8 q8 r9 q9 r10 q10 r11 q11
  generalize ((((((((((((w2.setCell ⟨w.heap.size + 1, 0, none⟩ (.int .i64 0)).setCell ⟨w.heap.size + 1, 1, none⟩ (.int .i64 0)).setCell ⟨w.heap.size + 1, 2, none⟩ (.int .i64 0)).setCell ⟨w.heap.size + 1, 3, none⟩ (.int .i64 0)).setCell ⟨w.heap.size + 1, 4, none⟩ (.int .i64 0)).setCell ⟨w.heap.size + 1, 5, none⟩ (.int .i64 0)).setCell ⟨w.heap.size + 1, 6, none⟩ (.int .i64 0)).setCell ⟨w.heap.size + 1, 7, none⟩ (.int .i64 0)).setCell ⟨w.heap.size + 1, 8, none⟩ (.slice none 0 0)).setCell ⟨w.heap.size + 1, 9, none⟩ (.int .i64 0)).setCell ⟨w.heap.size + 1, 10, none⟩ (.slice none 0 0)).setCell ⟨w.heap.size + 1, 11, none⟩ (.slice none 0 0)) = Z at *
  have c0 := K1.out.cell 0 rfl
  have c1 := K1.out.cell 1 rfl
  have c2 := K1.out.cell 2 rfl
  have c3 := K1.out.cell 3 rfl
  have c4 := K1.out.cell 4 rfl
  have c5 := K1.out.cell 5 rfl
  have c6 := K1.out.cell 6 rfl
  have c7 := K1.out.cell 7 rfl
  have c8 := K1.out.cell 8 rfl
  have c9 := K1.out.cell 9 rfl
  have c10 := K1.out.cell 10 rfl
  have c11 := K1.out.cell 11 rfl
  refine bodyPost_ret (by simp [results, Try.results14, go_sem, c0, c1, c2, c3, c4, c5, c6, c7, c8, c9, c10, c11]; try rfl) rfl ?_
  exact ⟨rfl, K2.out⟩
set_option maxHeartbeats 3200000 in
set_option maxRecDepth 20000 in
theorem dget_yes (N b : Nat) (most : Int) (lv : Value) (L : List Row) (k : KeyZ) (w : World) (h : Keeps w N b most lv L) (ht : thereB L k = true) (r : Row) (hr : L[posZ L k]? = some r) : Calls Try.prog 14 #[.pointer (some ⟨b, 0, none⟩), .agg (keyV k)] w fun e w' => ∃ s1, e = .returned (.tuple #[.agg (lsaA s1 r.2), .bool true]) ∧ Held w' s1 r.2 ∧ Nils s1 ∧ Below w.heap.size w w' := by
  obtain ⟨hp, hr'⟩ := List.getElem?_eq_some_iff.1 hr
  obtain ⟨a, c, rfl, hL, hLc, hcm, hanil, hag⟩ := h.lies
  obtain ⟨g, off, rfl, hrow⟩ := DB.at hL (posZ L k) hp
  rw [hr'] at hrow
  obtain rfl : off = 0 := by
    obtain ⟨g', e, -⟩ := hag _ rfl
    simp only [Addr.mk.injEq] at e; exact e.2.1
  have HRow : Hid (RowAt w g (0 + posZ L k * 12) r) := hrow
  rw [Nat.zero_add] at HRow
  have HMEM : Hid (r ∈ L) := by show r ∈ L; rw [← hr']; exact List.getElem_mem hp
  have CF := fun X (hX : Below w.heap.size w X) => at_any N b most _ L k X (h.below hX)
  rw [show atZ L k = (posZ L k : Int) by unfold atZ; rw [ht]; rfl] at CF
  have HK : Hid (Keeps w N b most (.slice (some ⟨g, 0, none⟩) L.length c) L) := h
  have hlen : L.length ≤ 1000000 := h.len
  have hpI : (posZ L k : Int) < (L.length : Int) := by omega
  have hlc : (L.length : Int) ≤ (c : Int) := by omega
  clear h ht hL hLc hcm hanil hag hrow hr hr' hp
  obtain ⟨p, hpe⟩ : ∃ p, posZ L k = p := ⟨_, rfl⟩
  rw [hpe] at CF hpI HRow
  clear hpe
  have hp0 : ¬ ((p : Int) < 0) := by omega
  have HB : Hid (Below w.heap.size w ((w.alloc (.cells (keyV k) 41)).alloc (.cells zero12.toArray 39))) := (below_new' _ _).alloc (by simp) _
  have HK0 : Hid (Var ((w.alloc (.cells (keyV k) 41)).alloc (.cells zero12.toArray 39)) w.heap.size [.int .i64 k.kind, .int .i64 k.id, .int .i64 k.adv]) := (var_new w [.int .i64 k.kind, .int .i64 k.id, .int .i64 k.adv] _).alloc _
  have HR : Hid (Var ((w.alloc (.cells (keyV k) 41)).alloc (.cells zero12.toArray 39)) (w.heap.size + 1) zero12) := by
    have := var_new (w.alloc (.cells (keyV k) 41)) zero12 39
    rw [size_new] at this; exact this
  go_enter Try.func14, Try.ntmps14
  go_upto_region 1 with fail
  generalize (w.alloc (.cells (keyV k) 41)).alloc (.cells zero12.toArray 39) = W at *
  have d0 := HK0.out.cell 0 rfl
  have d1 := HK0.out.cell 1 rfl
  have d2 := HK0.out.cell 2 rfl
  have CF2 := CF W HB.out
  clear CF
  go_wp2_with fail
  refine CF2.mono ?_
  rintro e w2 ⟨rfl, hb⟩
  replace HR : Hid (Var w2 (w.heap.size + 1) zero12) := HR.out.below hb HR.out.lt
  have HB2 : Hid (Below w.heap.size w w2) := below_more HB.out hb HB.out.size
  clear hb d0 d1 d2 CF2 HK0 HB
  have b1 := (HK.out.below HB2.out).obj.cell 1 rfl
  obtain ⟨y0, y1, y2, y3, y4, y5, y6, y7, y8, y9, y10, y11⟩ := HRow.out.below HB2.out HRow.out.lt
  have hKr := (HK.out.below HB2.out).row HMEM.out
  have CC := dCopy_any r.1 r.2 w2 hKr.1 hKr.2.2.1 hKr.2.1
  clear hKr
  go_wp2_with fail
  refine CC.mono ?_
  rintro e w3 ⟨s1, rfl, hh, hn, hb, f1, f2, f3⟩
  have hsz : w.heap.size + 2 ≤ w2.heap.size := HR.out.lt
  have HF : Hid (Far (w.heap.size + 2) s1.la ∧ Far (w.heap.size + 2) s1.ra ∧ Far (w.heap.size + 2) s1.va) := ⟨f1.mono hsz, f2.mono hsz, f3.mono hsz⟩
  replace HR : Hid (Var w3 (w.heap.size + 1) zero12) := HR.out.below hb HR.out.lt
  have HB3 : Hid (Below w.heap.size w w3) := below_more HB2.out hb HB2.out.size
  have HH : Hid (Held w3 s1 r.2) := hh
  have HN : Hid (Nils s1) := hn
  clear hh hn hb f1 f2 f3 hsz CC y0 y1 y2 y3 y4 y5 y6 y7 y8 y9 y10 y11 b1
  have L0 : Hid (Lies ((((((((((((w3.setCell ⟨w.heap.size + 1, 0, none⟩ (.int .i64 r.2.head.age)).setCell ⟨w.heap.size + 1, 1, none⟩ (.int .i64 r.2.head.kind)).setCell ⟨w.heap.size + 1, 2, none⟩ (.int .i64 r.2.head.id)).setCell ⟨w.heap.size + 1, 3, none⟩ (.int .i64 r.2.head.adv)).setCell ⟨w.heap.size + 1, 4, none⟩ (.int .i64 r.2.head.seq)).setCell ⟨w.heap.size + 1, 5, none⟩ (.int .i64 r.2.head.sum)).setCell ⟨w.heap.size + 1, 6, none⟩ (.int .i64 r.2.head.len)).setCell ⟨w.heap.size + 1, 7, none⟩ (.int .i64 r.2.flags)).setCell ⟨w.heap.size + 1, 8, none⟩ (.slice s1.la r.2.links.length s1.lc)).setCell ⟨w.heap.size + 1, 9, none⟩ (.int .i64 r.2.bits)).setCell ⟨w.heap.size + 1, 10, none⟩ (.slice s1.ra r.2.routers.length s1.rc)).setCell ⟨w.heap.size + 1, 11, none⟩ (.slice s1.va r.2.verts.length s1.vc)) s1.la _) := HH.out.hl.put12 HF.out.1 (by omega) (.int .i64 r.2.head.age) (.int .i64 r.2.head.kind) (.int .i64 r.2.head.id) (.int .i64 r.2.head.adv) (.int .i64 r.2.head.seq) (.int .i64 r.2.head.sum) (.int .i64 r.2.head.len) (.int .i64 r.2.flags) (.slice s1.la r.2.links.length s1.lc) (.int .i64 r.2.bits) (.slice s1.ra r.2.routers.length s1.rc) (.slice s1.va r.2.verts.length s1.vc)
  have L1 : Hid (Lies ((((((((((((w3.setCell ⟨w.heap.size + 1, 0, none⟩ (.int .i64 r.2.head.age)).setCell ⟨w.heap.size + 1, 1, none⟩ (.int .i64 r.2.head.kind)).setCell ⟨w.heap.size + 1, 2, none⟩ (.int .i64 r.2.head.id)).setCell ⟨w.heap.size + 1, 3, none⟩ (.int .i64 r.2.head.adv)).setCell ⟨w.heap.size + 1, 4, none⟩ (.int .i64 r.2.head.seq)).setCell ⟨w.heap.size + 1, 5, none⟩ (.int .i64 r.2.head.sum)).setCell ⟨w.heap.size + 1, 6, none⟩ (.int .i64 r.2.head.len)).setCell ⟨w.heap.size + 1, 7, none⟩ (.int .i64 r.2.flags)).setCell ⟨w.heap.size + 1, 8, none⟩ (.slice s1.la r.2.links.length s1.lc)).setCell ⟨w.heap.size + 1, 9, none⟩ (.int .i64 r.2.bits)).setCell ⟨w.heap.size + 1, 10, none⟩ (.slice s1.ra r.2.routers.length s1.rc)).setCell ⟨w.heap.size + 1, 11, none⟩ (.slice s1.va r.2.verts.length s1.vc)) s1.ra _) := HH.out.hr.put12 HF.out.2.1 (by omega) (.int .i64 r.2.head.age) (.int .i64 r.2.head.kind) (.int .i64 r.2.head.id) (.int .i64 r.2.head.adv) (.int .i64 r.2.head.seq) (.int .i64 r.2.head.sum) (.int .i64 r.2.head.len) (.int .i64 r.2.flags) (.slice s1.la r.2.links.length s1.lc) (.int .i64 r.2.bits) (.slice s1.ra r.2.routers.length s1.rc) (.slice s1.va r.2.verts.length s1.vc)
  have L2 : Hid (Lies ((((((((((((w3.setCell ⟨w.heap.size + 1, 0, none⟩ (.int .i64 r.2.head.age)).setCell ⟨w.heap.size + 1, 1, none⟩ (.int .i64 r.2.head.kind)).setCell ⟨w.heap.size + 1, 2, none⟩ (.int .i64 r.2.head.id)).setCell ⟨w.heap.size + 1, 3, none⟩ (.int .i64 r.2.head.adv)).setCell ⟨w.heap.size + 1, 4, none⟩ (.int .i64 r.2.head.seq)).setCell ⟨w.heap.size + 1, 5, none⟩ (.int .i64 r.2.head.sum)).setCell ⟨w.heap.size + 1, 6, none⟩ (.int .i64 r.2.head.len)).setCell ⟨w.heap.size + 1, 7, none⟩ (.int .i64 r.2.flags)).setCell ⟨w.heap.size + 1, 8, none⟩ (.slice s1.la r.2.links.length s1.lc)).setCell ⟨w.heap.size + 1, 9, none⟩ (.int .i64 r.2.bits)).setCell ⟨w.heap.size + 1, 10, none⟩ (.slice s1.ra r.2.routers.length s1.rc)).setCell ⟨w.heap.size + 1, 11, none⟩ (.slice s1.va r.2.verts.length s1.vc)) s1.va _) := HH.out.hv.put12 HF.out.2.2 (by omega) (.int .i64 r.2.head.age) (.int .i64 r.2.head.kind) (.int .i64 r.2.head.id) (.int .i64 r.2.head.adv) (.int .i64 r.2.head.seq) (.int .i64 r.2.head.sum) (.int .i64 r.2.head.len) (.int .i64 r.2.flags) (.slice s1.la r.2.links.length s1.lc) (.int .i64 r.2.bits) (.slice s1.ra r.2.routers.length s1.rc) (.slice s1.va r.2.verts.length s1.vc)
  have K1 : Hid (Var ((((((((((((w3.setCell ⟨w.heap.size + 1, 0, none⟩ (.int .i64 r.2.head.age)).setCell ⟨w.heap.size + 1, 1, none⟩ (.int .i64 r.2.head.kind)).setCell ⟨w.heap.size + 1, 2, none⟩ (.int .i64 r.2.head.id)).setCell ⟨w.heap.size + 1, 3, none⟩ (.int .i64 r.2.head.adv)).setCell ⟨w.heap.size + 1, 4, none⟩ (.int .i64 r.2.head.seq)).setCell ⟨w.heap.size + 1, 5, none⟩ (.int .i64 r.2.head.sum)).setCell ⟨w.heap.size + 1, 6, none⟩ (.int .i64 r.2.head.len)).setCell ⟨w.heap.size + 1, 7, none⟩ (.int .i64 r.2.flags)).setCell ⟨w.heap.size + 1, 8, none⟩ (.slice s1.la r.2.links.length s1.lc)).setCell ⟨w.heap.size + 1, 9, none⟩ (.int .i64 r.2.bits)).setCell ⟨w.heap.size + 1, 10, none⟩ (.slice s1.ra r.2.routers.length s1.rc)).setCell ⟨w.heap.size + 1, 11, none⟩ (.slice s1.va r.2.verts.length s1.vc)) (w.heap.size + 1) [(.int .i64 r.2.head.age), (.int .i64 r.2.head.kind), (.int .i64 r.2.head.id), (.int .i64 r.2.head.adv), (.int .i64 r.2.head.seq), (.int .i64 r.2.head.sum), (.int .i64 r.2.head.len), (.int .i64 r.2.flags), (.slice s1.la r.2.links.length s1.lc), (.int .i64 r.2.bits), (.slice s1.ra r.2.routers.length s1.rc), (.slice s1.va r.2.verts.length s1.vc)]) := HR.out.put12 (.int .i64 r.2.head.age) (.int .i64 r.2.head.kind) (.int .i64 r.2.head.id) (.int .i64 r.2.head.adv) (.int .i64 r.2.head.seq) (.int .i64 r.2.head.sum) (.int .i64 r.2.head.len) (.int .i64 r.2.flags) (.slice s1.la r.2.links.length s1.lc) (.int .i64 r.2.bits) (.slice s1.ra r.2.routers.length s1.rc) (.slice s1.va r.2.verts.length s1.vc)
  have K2 : Hid (Below w.heap.size w ((((((((((((w3.setCell ⟨w.heap.size + 1, 0, none⟩ (.int .i64 r.2.head.age)).setCell ⟨w.heap.size + 1, 1, none⟩ (.int .i64 r.2.head.kind)).setCell ⟨w.heap.size + 1, 2, none⟩ (.int .i64 r.2.head.id)).setCell ⟨w.heap.size + 1, 3, none⟩ (.int .i64 r.2.head.adv)).setCell ⟨w.heap.size + 1, 4, none⟩ (.int .i64 r.2.head.seq)).setCell ⟨w.heap.size + 1, 5, none⟩ (.int .i64 r.2.head.sum)).setCell ⟨w.heap.size + 1, 6, none⟩ (.int .i64 r.2.head.len)).setCell ⟨w.heap.size + 1, 7, none⟩ (.int .i64 r.2.flags)).setCell ⟨w.heap.size + 1, 8, none⟩ (.slice s1.la r.2.links.length s1.lc)).setCell ⟨w.heap.size + 1, 9, none⟩ (.int .i64 r.2.bits)).setCell ⟨w.heap.size + 1, 10, none⟩ (.slice s1.ra r.2.routers.length s1.rc)).setCell ⟨w.heap.size + 1, 11, none⟩ (.slice s1.va r.2.verts.length s1.vc))) := below_put12 HB3.out (by omega) (.int .i64 r.2.head.age) (.int .i64 r.2.head.kind) (.int .i64 r.2.head.id) (.int .i64 r.2.head.adv) (.int .i64 r.2.head.seq) (.int .i64 r.2.head.sum) (.int .i64 r.2.head.len) (.int .i64 r.2.flags) (.slice s1.la r.2.links.length s1.lc) (.int .i64 r.2.bits) (.slice s1.ra r.2.routers.length s1.rc) (.slice s1.va r.2.verts.length s1.vc)
  have r0 := HR.out.cell 0 rfl
  have q0 := HR.out.frozen 0
  have r1 := HR.out.cell 1 rfl
  have q1 := HR.out.frozen 1
  have r2 := HR.out.cell 2 rfl
  have q2 := HR.out.frozen 2
  have r3 := HR.out.cell 3 rfl
  have q3 := HR.out.frozen 3
  have r4 := HR.out.cell 4 rfl
  have q4 := HR.out.frozen 4
  have r5 := HR.out.cell 5 rfl
  have q5 := HR.out.frozen 5
  have r6 := HR.out.cell 6 rfl
  have q6 := HR.out.frozen 6
  have r7 := HR.out.cell 7 rfl
  have q7 := HR.out.frozen 7
  have r8 := HR.out.cell 8 rfl
  have q8 := HR.out.frozen 8
  have r9 := HR.out.cell 9 rfl
  have q9 := HR.out.frozen 9
  have r10 := HR.out.cell 10 rfl
  have q10 := HR.out.frozen 10
  have r11 := HR.out.cell 11 rfl
  have q11 := HR.out.frozen 11
  go_wp2
  clear r0 q0 r1 q1 r2 q2 r3 q3 r4 q4 r5 q5 r6 q6 r7 q7 r8 q8 r9 q9 r10 q10 r11 q11
  generalize ((((((((((((w3.setCell ⟨w.heap.size + 1, 0, none⟩ (.int .i64 r.2.head.age)).setCell ⟨w.heap.size + 1, 1, none⟩ (.int .i64 r.2.head.kind)).setCell ⟨w.heap.size + 1, 2, none⟩ (.int .i64 r.2.head.id)).setCell ⟨w.heap.size + 1, 3, none⟩ (.int .i64 r.2.head.adv)).setCell ⟨w.heap.size + 1, 4, none⟩ (.int .i64 r.2.head.seq)).setCell ⟨w.heap.size + 1, 5, none⟩ (.int .i64 r.2.head.sum)).setCell ⟨w.heap.size + 1, 6, none⟩ (.int .i64 r.2.head.len)).setCell ⟨w.heap.size + 1, 7, none⟩ (.int .i64 r.2.flags)).setCell ⟨w.heap.size + 1, 8, none⟩ (.slice s1.la r.2.links.length s1.lc)).setCell ⟨w.heap.size + 1, 9, none⟩ (.int .i64 r.2.bits)).setCell ⟨w.heap.size + 1, 10, none⟩ (.slice s1.ra r.2.routers.length s1.rc)).setCell ⟨w.heap.size + 1, 11, none⟩ (.slice s1.va r.2.verts.length s1.vc)) = Z at *
  have c0 := K1.out.cell 0 rfl
  have c1 := K1.out.cell 1 rfl
  have c2 := K1.out.cell 2 rfl
  have c3 := K1.out.cell 3 rfl
  have c4 := K1.out.cell 4 rfl
  have c5 := K1.out.cell 5 rfl
  have c6 := K1.out.cell 6 rfl
  have c7 := K1.out.cell 7 rfl
  have c8 := K1.out.cell 8 rfl
  have c9 := K1.out.cell 9 rfl
  have c10 := K1.out.cell 10 rfl
  have c11 := K1.out.cell 11 rfl
  refine bodyPost_ret (by simp [results, Try.results14, go_sem, c0, c1, c2, c3, c4, c5, c6, c7, c8, c9, c10, c11]; try rfl) rfl ?_
  exact ⟨s1, rfl, ⟨L0.out, L1.out, L2.out⟩, HN.out, K2.out⟩
end Go.Proofs.Ytmcemhkhgccojaa
