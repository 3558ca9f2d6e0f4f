/- Advertisements of groups; how many there are; of no database. -/
import Derived.Test.YtmcemhkhgccojaaS8N0
import Derived.Test.YtmcemhkhgccojaaS5L0a
import Derived.Test.YtmcemhkhgccojaaS5R5
import Derived.Test.YtmcemhkhgccojaaS5D6
namespace Go.Proofs.Ytmcemhkhgccojaa
open Go.RowKit
set_option linter.unusedVariables false

def grpL (id adv seq : Int) : LsaZ := ⟨⟨0, 6, id, adv, seq, 0, 0⟩, 0, [], 0, [], []⟩
def grpZ' (id adv seq : Int) : LsaZ := withHead (grpL id adv seq) (sealH (grpL id adv seq))
theorem grp_right {id adv seq : Int} (h1 : 0 ≤ id ∧ id ≤ 4294967295) (h2 : 1 ≤ adv ∧ adv ≤ 4294967295) (h3 : 0 ≤ seq ∧ seq ≤ 2147483647) : rightLsaB (grpL id adv seq) = true := by
  unfold rightLsaB rightHeadB rightBodyB rightGroupB noRouterB noNetworkB rightListB amongB rightI grpL
  simp
  omega
theorem grp_mid (id adv seq : Int) : Mid (grpZ' id adv seq) := ⟨by simp [grpZ', withHead, grpL], by simp [grpZ', withHead, grpL], by simp [grpZ', withHead, grpL]⟩
theorem grp_sealed {id adv seq : Int} (h1 : 0 ≤ id ∧ id ≤ 4294967295) (h2 : 1 ≤ adv ∧ adv ≤ 4294967295) (h3 : 0 ≤ seq ∧ seq ≤ 2147483647) : sealedB (grpZ' id adv seq) = true := sealed_sealed (grp_right h1 h2 h3)
theorem grp_key (id adv seq : Int) : keyZ (grpZ' id adv seq).head = ⟨6, id, adv⟩ := by
  show keyZ (sealH (grpL id adv seq)) = _
  unfold keyZ; rw [sealH_kind, sealH_id, sealH_adv]; rfl
theorem grp_seq (id adv seq : Int) : (grpZ' id adv seq).head.seq = seq := by
  show (sealH (grpL id adv seq)).seq = _
  rw [sealH_seq]; rfl
def s0 : Seats := ⟨none, 0, none, 0, none, 0⟩
set_option maxHeartbeats 3200000 in
set_option maxRecDepth 20000 in
theorem group_any (id adv seq : Int) (w : World) (h1 : 0 ≤ id ∧ id ≤ 4294967295) (h2 : 1 ≤ adv ∧ adv ≤ 4294967295) (h3 : 0 ≤ seq ∧ seq ≤ 2147483647) :
    Calls Try.prog 29 #[.int .i64 id, .int .i64 adv, .int .i64 seq] w (SealEnd w (grpZ' id adv seq)) := by
  have hs := fun W => dSeal_any s0 (grpL id adv seq) W ⟨.inl rfl, .inl rfl, .inl rfl⟩ ⟨by simp [grpL], by simp [grpL], by simp [grpL]⟩ ⟨fun _ => rfl, fun _ => rfl, fun _ => rfl⟩
  rw [sealL_right (grp_right h1 h2 h3)] at hs
  have hs' : ∀ W, Calls Try.prog 25 #[.agg #[.int .i64 0, .int .i64 6, .int .i64 id, .int .i64 adv, .int .i64 seq, .int .i64 0, .int .i64 0, .int .i64 0, .slice none 0 0, .int .i64 0, .slice none 0 0, .slice none 0 0]] W (SealEnd W (grpZ' id adv seq)) := hs
  have HR : Hid (Var (w.alloc (.cells zero12.toArray 39)) w.heap.size zero12) := var_new w zero12 _
  have HB : Hid (Below w.heap.size w (w.alloc (.cells zero12.toArray 39))) := below_new' _ _
  have HG : Hid ((grpZ' id adv seq).links = [] ∧ (grpZ' id adv seq).routers = [] ∧ (grpZ' id adv seq).verts = []) := ⟨rfl, rfl, rfl⟩
  clear hs h1 h2 h3
  generalize grpZ' id adv seq = G at *
  go_enter Try.func29, Try.ntmps29
  go_upto_region 1 with fail
  generalize w.alloc (.cells zero12.toArray 39) = W at *
  go_wp2_with fail
  refine (hs' _).mono ?_
  rintro e w2 ⟨s1, rfl, hh, hn, hb⟩
  replace HR : Hid (Var w2 w.heap.size zero12) := HR.out.below hb HR.out.lt
  replace HB : Hid (Below w.heap.size w w2) := below_more HB.out hb HB.out.size
  have HN : Hid (Nils s1) := hn
  have K1 : Hid (Var ((((((((((((w2.setCell ⟨w.heap.size, 0, none⟩ (.int .i64 G.head.age)).setCell ⟨w.heap.size, 1, none⟩ (.int .i64 G.head.kind)).setCell ⟨w.heap.size, 2, none⟩ (.int .i64 G.head.id)).setCell ⟨w.heap.size, 3, none⟩ (.int .i64 G.head.adv)).setCell ⟨w.heap.size, 4, none⟩ (.int .i64 G.head.seq)).setCell ⟨w.heap.size, 5, none⟩ (.int .i64 G.head.sum)).setCell ⟨w.heap.size, 6, none⟩ (.int .i64 G.head.len)).setCell ⟨w.heap.size, 7, none⟩ (.int .i64 G.flags)).setCell ⟨w.heap.size, 8, none⟩ (.slice s1.la G.links.length s1.lc)).setCell ⟨w.heap.size, 9, none⟩ (.int .i64 G.bits)).setCell ⟨w.heap.size, 10, none⟩ (.slice s1.ra G.routers.length s1.rc)).setCell ⟨w.heap.size, 11, none⟩ (.slice s1.va G.verts.length s1.vc)) w.heap.size [(.int .i64 G.head.age), (.int .i64 G.head.kind), (.int .i64 G.head.id), (.int .i64 G.head.adv), (.int .i64 G.head.seq), (.int .i64 G.head.sum), (.int .i64 G.head.len), (.int .i64 G.flags), (.slice s1.la G.links.length s1.lc), (.int .i64 G.bits), (.slice s1.ra G.routers.length s1.rc), (.slice s1.va G.verts.length s1.vc)]) := HR.out.put12 (.int .i64 G.head.age) (.int .i64 G.head.kind) (.int .i64 G.head.id) (.int .i64 G.head.adv) (.int .i64 G.head.seq) (.int .i64 G.head.sum) (.int .i64 G.head.len) (.int .i64 G.flags) (.slice s1.la G.links.length s1.lc) (.int .i64 G.bits) (.slice s1.ra G.routers.length s1.rc) (.slice s1.va G.verts.length s1.vc)
  have K2 : Hid (Below w.heap.size w ((((((((((((w2.setCell ⟨w.heap.size, 0, none⟩ (.int .i64 G.head.age)).setCell ⟨w.heap.size, 1, none⟩ (.int .i64 G.head.kind)).setCell ⟨w.heap.size, 2, none⟩ (.int .i64 G.head.id)).setCell ⟨w.heap.size, 3, none⟩ (.int .i64 G.head.adv)).setCell ⟨w.heap.size, 4, none⟩ (.int .i64 G.head.seq)).setCell ⟨w.heap.size, 5, none⟩ (.int .i64 G.head.sum)).setCell ⟨w.heap.size, 6, none⟩ (.int .i64 G.head.len)).setCell ⟨w.heap.size, 7, none⟩ (.int .i64 G.flags)).setCell ⟨w.heap.size, 8, none⟩ (.slice s1.la G.links.length s1.lc)).setCell ⟨w.heap.size, 9, none⟩ (.int .i64 G.bits)).setCell ⟨w.heap.size, 10, none⟩ (.slice s1.ra G.routers.length s1.rc)).setCell ⟨w.heap.size, 11, none⟩ (.slice s1.va G.verts.length s1.vc))) := below_put12 HB.out (Nat.le_refl _) (.int .i64 G.head.age) (.int .i64 G.head.kind) (.int .i64 G.head.id) (.int .i64 G.head.adv) (.int .i64 G.head.seq) (.int .i64 G.head.sum) (.int .i64 G.head.len) (.int .i64 G.flags) (.slice s1.la G.links.length s1.lc) (.int .i64 G.bits) (.slice s1.ra G.routers.length s1.rc) (.slice s1.va G.verts.length s1.vc)
  clear hb hh hn hs'
  have r0 := HR.out.cell 0 rfl
  have q0 := HR.out.frozen 0
  have r1 := HR.out.cell 1 rfl
  have q1 := HR.out.frozen 1
  have r2 := HR.out.cell 2 rfl
  have q2 := HR.out.frozen 2
  have r3 := HR.out.cell 3 rfl
  have q3 := HR.out.frozen 3
  have r4 := HR.out.cell 4 rfl
  have q4 := HR.out.frozen 4
  have r5 := HR.out.cell 5 rfl
  have q5 := HR.out.frozen 5
  have r6 := HR.out.cell 6 rfl
  have q6 := HR.out.frozen 6
  have r7 := HR.out.cell 7 rfl
  have q7 := HR.out.frozen 7
  have r8 := HR.out.cell 8 rfl
  have q8 := HR.out.frozen 8
  have r9 := HR.out.cell 9 rfl
  have q9 := HR.out.frozen 9
  have r10 := HR.out.cell 10 rfl
  have q10 := HR.out.frozen 10
  have r11 := HR.out.cell 11 rfl
  have q11 := HR.out.frozen 11
  go_wp2
  clear r0 q0 r1 q1 r2 q2 r3 q3 r4 q4 r5 q5 r6 q6 r7 q7 r8 q8 r9 q9 r10 q10 r11 q11
  generalize ((((((((((((w2.setCell ⟨w.heap.size, 0, none⟩ (.int .i64 G.head.age)).setCell ⟨w.heap.size, 1, none⟩ (.int .i64 G.head.kind)).setCell ⟨w.heap.size, 2, none⟩ (.int .i64 G.head.id)).setCell ⟨w.heap.size, 3, none⟩ (.int .i64 G.head.adv)).setCell ⟨w.heap.size, 4, none⟩ (.int .i64 G.head.seq)).setCell ⟨w.heap.size, 5, none⟩ (.int .i64 G.head.sum)).setCell ⟨w.heap.size, 6, none⟩ (.int .i64 G.head.len)).setCell ⟨w.heap.size, 7, none⟩ (.int .i64 G.flags)).setCell ⟨w.heap.size, 8, none⟩ (.slice s1.la G.links.length s1.lc)).setCell ⟨w.heap.size, 9, none⟩ (.int .i64 G.bits)).setCell ⟨w.heap.size, 10, none⟩ (.slice s1.ra G.routers.length s1.rc)).setCell ⟨w.heap.size, 11, none⟩ (.slice s1.va G.verts.length s1.vc)) = Z at *
  have c0 := K1.out.cell 0 rfl
  have c1 := K1.out.cell 1 rfl
  have c2 := K1.out.cell 2 rfl
  have c3 := K1.out.cell 3 rfl
  have c4 := K1.out.cell 4 rfl
  have c5 := K1.out.cell 5 rfl
  have c6 := K1.out.cell 6 rfl
  have c7 := K1.out.cell 7 rfl
  have c8 := K1.out.cell 8 rfl
  have c9 := K1.out.cell 9 rfl
  have c10 := K1.out.cell 10 rfl
  have c11 := K1.out.cell 11 rfl
  refine bodyPost_ret (by simp [results, Try.results29, go_sem, c0, c1, c2, c3, c4, c5, c6, c7, c8, c9, c10, c11]; try rfl) rfl ?_
  obtain ⟨g1, g2, g3⟩ := HG.out
  exact ⟨s1, rfl, ⟨.inl (by rw [g1]; rfl), .inl (by rw [g2]; rfl), .inl (by rw [g3]; rfl)⟩, HN.out, K2.out⟩
theorem len_nil (w : World) : Calls Try.prog 19 #[.pointer none] w fun e w' => e = .returned (.int .i64 0) ∧ w' = w := by
  go_enter Try.func19, Try.ntmps19
  go_wp2
  go_ret
  exact ⟨rfl, rfl⟩
theorem len_any (N b : Nat) (most : Int) (lv : Value) (L : List Row) (w : World) (h : Keeps w N b most lv L) : Calls Try.prog 19 #[.pointer (some ⟨b, 0, none⟩)] w fun e w' => e = .returned (.int .i64 L.length) ∧ w' = w := by
  obtain ⟨a, c, rfl, -, -, -, -, -⟩ := h.lies
  have b1 := h.obj.cell 1 rfl
  have hl := h.len
  clear h
  go_enter Try.func19, Try.ntmps19
  go_wp2
  go_ret
  exact ⟨rfl, rfl⟩
theorem copy_nil (w : World) : Calls Try.prog 18 #[.pointer none] w fun e w' => e = .returned (.pointer none) ∧ w' = w := by
  go_enter Try.func18, Try.ntmps18
  go_wp2
  go_ret
  exact ⟨rfl, rfl⟩
set_option maxHeartbeats 800000 in
theorem drop_nil (k : KeyZ) (w : World) : Calls Try.prog 16 #[.pointer none, .agg (keyV k)] w fun e w' => e = .returned (.bool false) ∧ Below w.heap.size w w' := by
  have HB : Hid (Below w.heap.size w (w.alloc (.cells (keyV k) 41))) := below_new' _ _
  have HK0 : Hid (Var (w.alloc (.cells (keyV k) 41)) w.heap.size [.int .i64 k.kind, .int .i64 k.id, .int .i64 k.adv]) := var_new w [.int .i64 k.kind, .int .i64 k.id, .int .i64 k.adv] _
  go_enter Try.func16, Try.ntmps16
  go_upto_region 1 with fail
  generalize w.alloc (.cells (keyV k) 41) = W at *
  have d0 := HK0.out.cell 0 rfl
  have d1 := HK0.out.cell 1 rfl
  have d2 := HK0.out.cell 2 rfl
  go_wp2_with fail
  refine (find_nil k _).mono ?_
  rintro e w2 ⟨rfl, hb⟩
  have HB2 : Hid (Below w.heap.size w w2) := below_more HB.out hb HB.out.size
  clear hb
  go_wp2
  go_ret
  exact ⟨rfl, HB2.out⟩
end Go.Proofs.Ytmcemhkhgccojaa
