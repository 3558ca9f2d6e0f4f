/- Seal. -/
import Derived.Test.YtmcemhkhgccojaaS5W9
namespace Go.Proofs.Ytmcemhkhgccojaa
open Go.RowKit

abbrev zero12 : List Value := [.int .i64 0, .int .i64 0, .int .i64 0, .int .i64 0, .int .i64 0, .int .i64 0, .int .i64 0, .int .i64 0, .slice none 0 0, .int .i64 0, .slice none 0 0, .slice none 0 0]
/-- Of lists that are nil nothing is spare. -/
structure Nils (s : Seats) : Prop where
  hl : s.la = none → s.lc = 0
  hr : s.ra = none → s.rc = 0
  hv : s.va = none → s.vc = 0
def withHead (l : LsaZ) (h : HeadZ) : LsaZ := { l with head := h }
def sealL (l : LsaZ) : LsaZ := if rightLsaB l = true then withHead l (sealH l) else l
theorem one_links (l : List LinkZ) : ∀ u ∈ cellsOf linkC l, u.oneCell' = true := by
  intro u hu
  obtain ⟨x, _, hx⟩ := List.mem_flatMap.1 hu
  simp [linkC] at hx
  rcases hx with rfl | rfl | rfl | rfl <;> rfl
theorem one_verts (l : List VertZ) : ∀ u ∈ cellsOf vertC l, u.oneCell' = true := by
  intro u hu
  obtain ⟨x, _, hx⟩ := List.mem_flatMap.1 hu
  simp [vertC] at hx
  rcases hx with rfl | rfl <;> rfl
theorem one_ints (l : List Int) : ∀ u ∈ cellsOf intC l, u.oneCell' = true := by
  intro u hu
  obtain ⟨x, _, hx⟩ := List.mem_flatMap.1 hu
  simp [intC] at hx
  rcases hx with rfl; rfl
theorem len_links (l : List LinkZ) : (cellsOf linkC l).length = l.length * 4 := cellsOf_length linkC 4 (fun _ => rfl) l
theorem len_verts (l : List VertZ) : (cellsOf vertC l).length = l.length * 2 := cellsOf_length vertC 2 (fun _ => rfl) l
theorem len_ints (l : List Int) : (cellsOf intC l).length = l.length * 1 := cellsOf_length intC 1 (fun _ => rfl) l

/-- The end of Seal: the lists are copied; the head is what it is by then. -/
def SealEnd (w : World) (l : LsaZ) (e : Ending) (w' : World) : Prop := ∃ s', e = .returned (.agg (lsaA s' l)) ∧ Held w' s' l ∧ Nils s' ∧ Below w.heap.size w w'
theorem Lies.put12 {w : World} {a : Option Addr} {vs : List Value} {N b : Nat} (h : Lies w a vs) (hf : Far N a) (hp : b < N) (v0 v1 v2 v3 v4 v5 v6 v7 v8 v9 v10 v11 : Value) : Lies ((((((((((((w.setCell ⟨b, 0, none⟩ v0).setCell ⟨b, 1, none⟩ v1).setCell ⟨b, 2, none⟩ v2).setCell ⟨b, 3, none⟩ v3).setCell ⟨b, 4, none⟩ v4).setCell ⟨b, 5, none⟩ v5).setCell ⟨b, 6, none⟩ v6).setCell ⟨b, 7, none⟩ v7).setCell ⟨b, 8, none⟩ v8).setCell ⟨b, 9, none⟩ v9).setCell ⟨b, 10, none⟩ v10).setCell ⟨b, 11, none⟩ v11) a vs := by
  have hx : ∀ i, (⟨b, i, none⟩ : Addr).block < N := fun _ => hp
  exact h |>.set hf (hx 0) v0 |>.set hf (hx 1) v1 |>.set hf (hx 2) v2 |>.set hf (hx 3) v3 |>.set hf (hx 4) v4 |>.set hf (hx 5) v5 |>.set hf (hx 6) v6 |>.set hf (hx 7) v7 |>.set hf (hx 8) v8 |>.set hf (hx 9) v9 |>.set hf (hx 10) v10 |>.set hf (hx 11) v11
set_option maxHeartbeats 3200000 in
theorem seal_not (s : Seats) (l : LsaZ) (w : World) (hH : Held w s l) (hf : Mid l) (hN : Nils s) (hr : rightLsaB l = false) :
    Calls Try.prog 46 #[.agg (lsaA s l)] w (SealEnd w l) := by
  have HV : Hid (Var ((w.alloc (.cells (lsaA s l) 39)).alloc (.cells zero12.toArray 39)) w.heap.size (lsaL s l)) := (var_new w (lsaL s l) _).alloc _
  have HR : Hid (Var ((w.alloc (.cells (lsaA s l) 39)).alloc (.cells zero12.toArray 39)) (w.heap.size + 1) zero12) := by
    have := var_new (w.alloc (.cells (lsaA s l) 39)) zero12 39
    rw [size_new] at this; exact this
  have HB : Hid (Below w.heap.size w ((w.alloc (.cells (lsaA s l) 39)).alloc (.cells zero12.toArray 39))) := (below_new' _ _).alloc (by simp) _
  have HH : Hid (Held w s l) := hH
  have HMI : Hid (Mid l) := hf
  have HNI : Hid (Nils s) := hN
  clear hH hf hN
  go_enter Try.func46, Try.ntmps46
  go_upto_region 1 with fail
  generalize ((w.alloc (.cells (lsaA s l) 39)).alloc (.cells zero12.toArray 39)) = W0 at *
  obtain ⟨c0, c1, c2, c3, c4, c5, c6, c7, c8, c9, c10, c11⟩ := HV.out.box
  go_wp2_with fail
  refine (rightLsa_any s l _ (HH.out.below HB.out) HMI.out.fits).mono ?_
  rintro e w1 ⟨rfl, hb⟩
  rw [hr]
  replace HR : Hid (Var w1 (w.heap.size + 1) zero12) := HR.out.below hb HR.out.lt
  replace HB : Hid (Below w.heap.size w w1) := below_more HB.out hb HB.out.size
  replace HV : Hid (Var w1 w.heap.size (lsaL s l)) := HV.out.below hb HV.out.lt
  clear hb hr c0 c1 c2 c3 c4 c5 c6 c7 c8 c9 c10 c11
  go_upto_region 3 with fail
  obtain ⟨i, hi, hz0, hz1, hz2⟩ := info_parts info_link
  have c8 := HV.out.cell 8 rfl
  go_wp2_with (at_builtin; go_must (refine wp_append_lies _ rfl _ _ 35 rfl 93 i (.agg #[.int .i64 0, .int .i64 0, .int .i64 0, .int .i64 0]) 4 32 Try.underlying35 hi hz0 hz1 hz2 rfl (by decide) rfl s.la _ s.lc rfl (cellsOf linkC l.links) (len_links _) (HH.out.belowN HB.out (Nat.le_refl _)).hl (one_links _) HNI.out.hl (by have := HMI.out.hl; unfold maxLen; omega) (by have := HMI.out.hl; omega) ?_))
  intro a0 cp0 w10 hL hb hnl hfar
  have HA0 : Hid (Far (w.heap.size + 2) a0) := hfar.mono HR.out.lt
  replace HV : Hid (Var w10 w.heap.size [.int .i64 l.head.age, .int .i64 l.head.kind, .int .i64 l.head.id, .int .i64 l.head.adv, .int .i64 l.head.seq, .int .i64 l.head.sum, .int .i64 l.head.len, .int .i64 l.flags, .slice s.la l.links.length s.lc, .int .i64 l.bits, .slice s.ra l.routers.length s.rc, .slice s.va l.verts.length s.vc]) := HV.out.below hb HV.out.lt
  replace HR : Hid (Var w10 (w.heap.size + 1) zero12) := HR.out.below hb HR.out.lt
  replace HB : Hid (Below w.heap.size w w10) := below_more HB.out hb HB.out.size
  have HL0 : Hid (Lies w10 a0 (cellsOf linkC l.links)) := hL
  have HQ0 : Hid (a0 = none → cp0 = 0) := hnl
  clear hL hnl hb hfar c8 hi hz0 hz1 hz2 i
  have c8 := HV.out.cell 8 rfl
  have z8 := HV.out.frozen 8
  replace HV : Hid (Var (w10.setCell ⟨w.heap.size, 8, none⟩ (.slice a0 l.links.length cp0)) w.heap.size [.int .i64 l.head.age, .int .i64 l.head.kind, .int .i64 l.head.id, .int .i64 l.head.adv, .int .i64 l.head.seq, .int .i64 l.head.sum, .int .i64 l.head.len, .int .i64 l.flags, .slice a0 l.links.length cp0, .int .i64 l.bits, .slice s.ra l.routers.length s.rc, .slice s.va l.verts.length s.vc]) := HV.out.set 8 _
  replace HR : Hid (Var (w10.setCell ⟨w.heap.size, 8, none⟩ (.slice a0 l.links.length cp0)) (w.heap.size + 1) zero12) := HR.out.other (by omega) _ _
  replace HB : Hid (Below w.heap.size w (w10.setCell ⟨w.heap.size, 8, none⟩ (.slice a0 l.links.length cp0))) := HB.out.setCell (p := ⟨w.heap.size, 8, none⟩) (Nat.le_refl _) _
  replace HL0 : Hid (Lies (w10.setCell ⟨w.heap.size, 8, none⟩ (.slice a0 l.links.length cp0)) a0 _) := HL0.out.set (p := ⟨w.heap.size, 8, none⟩) HA0.out (by show w.heap.size < w.heap.size + 2; omega) _
  go_upto_region 4 with fail
  generalize w10.setCell ⟨w.heap.size, 8, none⟩ (.slice a0 l.links.length cp0) = V0 at *
  clear c8 z8
  obtain ⟨i, hi, hz0, hz1, hz2⟩ := info_parts info_int
  have c10 := HV.out.cell 10 rfl
  go_wp2_with (at_builtin; go_must (refine wp_append_lies _ rfl _ _ 36 rfl 3 i (.int .i64 0) 1 8 Try.underlying36 hi hz0 hz1 hz2 rfl (by decide) rfl s.ra _ s.rc rfl (cellsOf intC l.routers) (len_ints _) (HH.out.belowN HB.out (Nat.le_refl _)).hr (one_ints _) HNI.out.hr (by have := HMI.out.hr; unfold maxLen; omega) (by have := HMI.out.hr; omega) ?_))
  intro a1 cp1 w11 hL hb hnl hfar
  have HA1 : Hid (Far (w.heap.size + 2) a1) := hfar.mono HR.out.lt
  replace HV : Hid (Var w11 w.heap.size [.int .i64 l.head.age, .int .i64 l.head.kind, .int .i64 l.head.id, .int .i64 l.head.adv, .int .i64 l.head.seq, .int .i64 l.head.sum, .int .i64 l.head.len, .int .i64 l.flags, .slice a0 l.links.length cp0, .int .i64 l.bits, .slice s.ra l.routers.length s.rc, .slice s.va l.verts.length s.vc]) := HV.out.below hb HV.out.lt
  replace HR : Hid (Var w11 (w.heap.size + 1) zero12) := HR.out.below hb HR.out.lt
  replace HB : Hid (Below w.heap.size w w11) := below_more HB.out hb HB.out.size
  replace HL0 : Hid (Lies w11 a0 _) := HL0.out.below hb
  have HL1 : Hid (Lies w11 a1 (cellsOf intC l.routers)) := hL
  have HQ1 : Hid (a1 = none → cp1 = 0) := hnl
  clear hL hnl hb hfar c10 hi hz0 hz1 hz2 i
  have c10 := HV.out.cell 10 rfl
  have z10 := HV.out.frozen 10
  replace HV : Hid (Var (w11.setCell ⟨w.heap.size, 10, none⟩ (.slice a1 l.routers.length cp1)) w.heap.size [.int .i64 l.head.age, .int .i64 l.head.kind, .int .i64 l.head.id, .int .i64 l.head.adv, .int .i64 l.head.seq, .int .i64 l.head.sum, .int .i64 l.head.len, .int .i64 l.flags, .slice a0 l.links.length cp0, .int .i64 l.bits, .slice a1 l.routers.length cp1, .slice s.va l.verts.length s.vc]) := HV.out.set 10 _
  replace HR : Hid (Var (w11.setCell ⟨w.heap.size, 10, none⟩ (.slice a1 l.routers.length cp1)) (w.heap.size + 1) zero12) := HR.out.other (by omega) _ _
  replace HB : Hid (Below w.heap.size w (w11.setCell ⟨w.heap.size, 10, none⟩ (.slice a1 l.routers.length cp1))) := HB.out.setCell (p := ⟨w.heap.size, 10, none⟩) (Nat.le_refl _) _
  replace HL0 : Hid (Lies (w11.setCell ⟨w.heap.size, 10, none⟩ (.slice a1 l.routers.length cp1)) a0 _) := HL0.out.set (p := ⟨w.heap.size, 10, none⟩) HA0.out (by show w.heap.size < w.heap.size + 2; omega) _
  replace HL1 : Hid (Lies (w11.setCell ⟨w.heap.size, 10, none⟩ (.slice a1 l.routers.length cp1)) a1 _) := HL1.out.set (p := ⟨w.heap.size, 10, none⟩) HA1.out (by show w.heap.size < w.heap.size + 2; omega) _
  go_upto_region 5 with fail
  generalize w11.setCell ⟨w.heap.size, 10, none⟩ (.slice a1 l.routers.length cp1) = V1 at *
  clear c10 z10
  obtain ⟨i, hi, hz0, hz1, hz2⟩ := info_parts info_vert
  have c11 := HV.out.cell 11 rfl
  go_wp2_with (at_builtin; go_must (refine wp_append_lies _ rfl _ _ 37 rfl 64 i (.agg #[.int .i64 0, .int .i64 0]) 2 16 Try.underlying37 hi hz0 hz1 hz2 rfl (by decide) rfl s.va _ s.vc rfl (cellsOf vertC l.verts) (len_verts _) (HH.out.belowN HB.out (Nat.le_refl _)).hv (one_verts _) HNI.out.hv (by have := HMI.out.hv; unfold maxLen; omega) (by have := HMI.out.hv; omega) ?_))
  intro a2 cp2 w12 hL hb hnl hfar
  have HA2 : Hid (Far (w.heap.size + 2) a2) := hfar.mono HR.out.lt
  replace HV : Hid (Var w12 w.heap.size [.int .i64 l.head.age, .int .i64 l.head.kind, .int .i64 l.head.id, .int .i64 l.head.adv, .int .i64 l.head.seq, .int .i64 l.head.sum, .int .i64 l.head.len, .int .i64 l.flags, .slice a0 l.links.length cp0, .int .i64 l.bits, .slice a1 l.routers.length cp1, .slice s.va l.verts.length s.vc]) := HV.out.below hb HV.out.lt
  replace HR : Hid (Var w12 (w.heap.size + 1) zero12) := HR.out.below hb HR.out.lt
  replace HB : Hid (Below w.heap.size w w12) := below_more HB.out hb HB.out.size
  replace HL0 : Hid (Lies w12 a0 _) := HL0.out.below hb
  replace HL1 : Hid (Lies w12 a1 _) := HL1.out.below hb
  have HL2 : Hid (Lies w12 a2 (cellsOf vertC l.verts)) := hL
  have HQ2 : Hid (a2 = none → cp2 = 0) := hnl
  clear hL hnl hb hfar c11 hi hz0 hz1 hz2 i
  have c11 := HV.out.cell 11 rfl
  have z11 := HV.out.frozen 11
  replace HV : Hid (Var (w12.setCell ⟨w.heap.size, 11, none⟩ (.slice a2 l.verts.length cp2)) w.heap.size [.int .i64 l.head.age, .int .i64 l.head.kind, .int .i64 l.head.id, .int .i64 l.head.adv, .int .i64 l.head.seq, .int .i64 l.head.sum, .int .i64 l.head.len, .int .i64 l.flags, .slice a0 l.links.length cp0, .int .i64 l.bits, .slice a1 l.routers.length cp1, .slice a2 l.verts.length cp2]) := HV.out.set 11 _
  replace HR : Hid (Var (w12.setCell ⟨w.heap.size, 11, none⟩ (.slice a2 l.verts.length cp2)) (w.heap.size + 1) zero12) := HR.out.other (by omega) _ _
  replace HB : Hid (Below w.heap.size w (w12.setCell ⟨w.heap.size, 11, none⟩ (.slice a2 l.verts.length cp2))) := HB.out.setCell (p := ⟨w.heap.size, 11, none⟩) (Nat.le_refl _) _
  replace HL0 : Hid (Lies (w12.setCell ⟨w.heap.size, 11, none⟩ (.slice a2 l.verts.length cp2)) a0 _) := HL0.out.set (p := ⟨w.heap.size, 11, none⟩) HA0.out (by show w.heap.size < w.heap.size + 2; omega) _
  replace HL1 : Hid (Lies (w12.setCell ⟨w.heap.size, 11, none⟩ (.slice a2 l.verts.length cp2)) a1 _) := HL1.out.set (p := ⟨w.heap.size, 11, none⟩) HA1.out (by show w.heap.size < w.heap.size + 2; omega) _
  replace HL2 : Hid (Lies (w12.setCell ⟨w.heap.size, 11, none⟩ (.slice a2 l.verts.length cp2)) a2 _) := HL2.out.set (p := ⟨w.heap.size, 11, none⟩) HA2.out (by show w.heap.size < w.heap.size + 2; omega) _
  go_upto_region 6 with fail
  generalize w12.setCell ⟨w.heap.size, 11, none⟩ (.slice a2 l.verts.length cp2) = V2 at *
  clear c11 z11
  have c0 := HV.out.cell 0 rfl
  have r0 := HR.out.cell 0 rfl
  have q0 := HR.out.frozen 0
  have c1 := HV.out.cell 1 rfl
  have r1 := HR.out.cell 1 rfl
  have q1 := HR.out.frozen 1
  have c2 := HV.out.cell 2 rfl
  have r2 := HR.out.cell 2 rfl
  have q2 := HR.out.frozen 2
  have c3 := HV.out.cell 3 rfl
  have r3 := HR.out.cell 3 rfl
  have q3 := HR.out.frozen 3
  have c4 := HV.out.cell 4 rfl
  have r4 := HR.out.cell 4 rfl
  have q4 := HR.out.frozen 4
  have c5 := HV.out.cell 5 rfl
  have r5 := HR.out.cell 5 rfl
  have q5 := HR.out.frozen 5
  have c6 := HV.out.cell 6 rfl
  have r6 := HR.out.cell 6 rfl
  have q6 := HR.out.frozen 6
  have c7 := HV.out.cell 7 rfl
  have r7 := HR.out.cell 7 rfl
  have q7 := HR.out.frozen 7
  have c8 := HV.out.cell 8 rfl
  have r8 := HR.out.cell 8 rfl
  have q8 := HR.out.frozen 8
  have c9 := HV.out.cell 9 rfl
  have r9 := HR.out.cell 9 rfl
  have q9 := HR.out.frozen 9
  have c10 := HV.out.cell 10 rfl
  have r10 := HR.out.cell 10 rfl
  have q10 := HR.out.frozen 10
  have c11 := HV.out.cell 11 rfl
  have r11 := HR.out.cell 11 rfl
  have q11 := HR.out.frozen 11
  go_wp2_with fail
  have HZ := HR.out.put12 (.int .i64 l.head.age) (.int .i64 l.head.kind) (.int .i64 l.head.id) (.int .i64 l.head.adv) (.int .i64 l.head.seq) (.int .i64 l.head.sum) (.int .i64 l.head.len) (.int .i64 l.flags) (.slice a0 l.links.length cp0) (.int .i64 l.bits) (.slice a1 l.routers.length cp1) (.slice a2 l.verts.length cp2)
  have HK := below_put12 HB.out (Nat.le_succ w.heap.size) (.int .i64 l.head.age) (.int .i64 l.head.kind) (.int .i64 l.head.id) (.int .i64 l.head.adv) (.int .i64 l.head.seq) (.int .i64 l.head.sum) (.int .i64 l.head.len) (.int .i64 l.flags) (.slice a0 l.links.length cp0) (.int .i64 l.bits) (.slice a1 l.routers.length cp1) (.slice a2 l.verts.length cp2)
  have HY : Hid (Held ((((((((((((V2.setCell ⟨w.heap.size + 1, 0, none⟩ (.int .i64 l.head.age)).setCell ⟨w.heap.size + 1, 1, none⟩ (.int .i64 l.head.kind)).setCell ⟨w.heap.size + 1, 2, none⟩ (.int .i64 l.head.id)).setCell ⟨w.heap.size + 1, 3, none⟩ (.int .i64 l.head.adv)).setCell ⟨w.heap.size + 1, 4, none⟩ (.int .i64 l.head.seq)).setCell ⟨w.heap.size + 1, 5, none⟩ (.int .i64 l.head.sum)).setCell ⟨w.heap.size + 1, 6, none⟩ (.int .i64 l.head.len)).setCell ⟨w.heap.size + 1, 7, none⟩ (.int .i64 l.flags)).setCell ⟨w.heap.size + 1, 8, none⟩ (.slice a0 l.links.length cp0)).setCell ⟨w.heap.size + 1, 9, none⟩ (.int .i64 l.bits)).setCell ⟨w.heap.size + 1, 10, none⟩ (.slice a1 l.routers.length cp1)).setCell ⟨w.heap.size + 1, 11, none⟩ (.slice a2 l.verts.length cp2)) ⟨a0, cp0, a1, cp1, a2, cp2⟩ l) := ⟨HL0.out.put12 HA0.out (Nat.lt_succ_self _) (.int .i64 l.head.age) (.int .i64 l.head.kind) (.int .i64 l.head.id) (.int .i64 l.head.adv) (.int .i64 l.head.seq) (.int .i64 l.head.sum) (.int .i64 l.head.len) (.int .i64 l.flags) (.slice a0 l.links.length cp0) (.int .i64 l.bits) (.slice a1 l.routers.length cp1) (.slice a2 l.verts.length cp2), HL1.out.put12 HA1.out (Nat.lt_succ_self _) (.int .i64 l.head.age) (.int .i64 l.head.kind) (.int .i64 l.head.id) (.int .i64 l.head.adv) (.int .i64 l.head.seq) (.int .i64 l.head.sum) (.int .i64 l.head.len) (.int .i64 l.flags) (.slice a0 l.links.length cp0) (.int .i64 l.bits) (.slice a1 l.routers.length cp1) (.slice a2 l.verts.length cp2), HL2.out.put12 HA2.out (Nat.lt_succ_self _) (.int .i64 l.head.age) (.int .i64 l.head.kind) (.int .i64 l.head.id) (.int .i64 l.head.adv) (.int .i64 l.head.seq) (.int .i64 l.head.sum) (.int .i64 l.head.len) (.int .i64 l.flags) (.slice a0 l.links.length cp0) (.int .i64 l.bits) (.slice a1 l.routers.length cp1) (.slice a2 l.verts.length cp2)⟩
  clear c0 r0 q0 c1 r1 q1 c2 r2 q2 c3 r3 q3 c4 r4 q4 c5 r5 q5 c6 r6 q6 c7 r7 q7 c8 r8 q8 c9 r9 q9 c10 r10 q10 c11 r11 q11
  generalize ((((((((((((V2.setCell ⟨w.heap.size + 1, 0, none⟩ (.int .i64 l.head.age)).setCell ⟨w.heap.size + 1, 1, none⟩ (.int .i64 l.head.kind)).setCell ⟨w.heap.size + 1, 2, none⟩ (.int .i64 l.head.id)).setCell ⟨w.heap.size + 1, 3, none⟩ (.int .i64 l.head.adv)).setCell ⟨w.heap.size + 1, 4, none⟩ (.int .i64 l.head.seq)).setCell ⟨w.heap.size + 1, 5, none⟩ (.int .i64 l.head.sum)).setCell ⟨w.heap.size + 1, 6, none⟩ (.int .i64 l.head.len)).setCell ⟨w.heap.size + 1, 7, none⟩ (.int .i64 l.flags)).setCell ⟨w.heap.size + 1, 8, none⟩ (.slice a0 l.links.length cp0)).setCell ⟨w.heap.size + 1, 9, none⟩ (.int .i64 l.bits)).setCell ⟨w.heap.size + 1, 10, none⟩ (.slice a1 l.routers.length cp1)).setCell ⟨w.heap.size + 1, 11, none⟩ (.slice a2 l.verts.length cp2)) = Z at *
  have r0 := HZ.cell 0 rfl
  have r1 := HZ.cell 1 rfl
  have r2 := HZ.cell 2 rfl
  have r3 := HZ.cell 3 rfl
  have r4 := HZ.cell 4 rfl
  have r5 := HZ.cell 5 rfl
  have r6 := HZ.cell 6 rfl
  have r7 := HZ.cell 7 rfl
  have r8 := HZ.cell 8 rfl
  have r9 := HZ.cell 9 rfl
  have r10 := HZ.cell 10 rfl
  have r11 := HZ.cell 11 rfl
  refine bodyPost_ret (by simp [results, Try.results46, go_sem, r0, r1, r2, r3, r4, r5, r6, r7, r8, r9, r10, r11]; try rfl) rfl ?_
  exact ⟨⟨a0, cp0, a1, cp1, a2, cp2⟩, rfl, HY.out, ⟨HQ0.out, HQ1.out, HQ2.out⟩, HK⟩
set_option maxHeartbeats 3200000 in
theorem seal_yes (s : Seats) (l : LsaZ) (w : World) (hH : Held w s l) (hf : Mid l) (hN : Nils s) (hr : rightLsaB l = true) :
    Calls Try.prog 46 #[.agg (lsaA s l)] w (SealEnd w (withHead l (sealH l))) := by
  obtain ⟨M, hM⟩ : ∃ M, M = withHead l (sealH l) := ⟨_, rfl⟩
  have HM : Hid (M = withHead l (sealH l)) := hM
  rw [← hM]
  clear hM
  have HV : Hid (Var ((w.alloc (.cells (lsaA s l) 39)).alloc (.cells zero12.toArray 39)) w.heap.size (lsaL s l)) := (var_new w (lsaL s l) _).alloc _
  have HR : Hid (Var ((w.alloc (.cells (lsaA s l) 39)).alloc (.cells zero12.toArray 39)) (w.heap.size + 1) zero12) := by
    have := var_new (w.alloc (.cells (lsaA s l) 39)) zero12 39
    rw [size_new] at this; exact this
  have HB : Hid (Below w.heap.size w ((w.alloc (.cells (lsaA s l) 39)).alloc (.cells zero12.toArray 39))) := (below_new' _ _).alloc (by simp) _
  have HH : Hid (Held w s l) := hH
  have HMI : Hid (Mid l) := hf
  have HNI : Hid (Nils s) := hN
  clear hH hf hN
  go_enter Try.func46, Try.ntmps46
  go_upto_region 1 with fail
  generalize ((w.alloc (.cells (lsaA s l) 39)).alloc (.cells zero12.toArray 39)) = W0 at *
  obtain ⟨c0, c1, c2, c3, c4, c5, c6, c7, c8, c9, c10, c11⟩ := HV.out.box
  go_wp2_with fail
  refine (rightLsa_any s l _ (HH.out.below HB.out) HMI.out.fits).mono ?_
  rintro e w1 ⟨rfl, hb⟩
  rw [hr]
  replace HR : Hid (Var w1 (w.heap.size + 1) zero12) := HR.out.below hb HR.out.lt
  replace HB : Hid (Below w.heap.size w w1) := below_more HB.out hb HB.out.size
  replace HV : Hid (Var w1 w.heap.size (lsaL s l)) := HV.out.below hb HV.out.lt
  clear hb hr c0 c1 c2 c3 c4 c5 c6 c7 c8 c9 c10 c11
  obtain ⟨c0, c1, c2, c3, c4, c5, c6, c7, c8, c9, c10, c11⟩ := HV.out.box
  have z0 := HV.out.frozen 0
  have z1 := HV.out.frozen 1
  have z2 := HV.out.frozen 2
  have z3 := HV.out.frozen 3
  have z4 := HV.out.frozen 4
  have z5 := HV.out.frozen 5
  have z6 := HV.out.frozen 6
  go_wp2_with fail
  refine (sealed_any s l _ (HH.out.below HB.out) HMI.out).mono ?_
  rintro e w2 ⟨rfl, hb⟩
  replace HR : Hid (Var w2 (w.heap.size + 1) zero12) := HR.out.below hb HR.out.lt
  replace HB : Hid (Below w.heap.size w w2) := below_more HB.out hb HB.out.size
  replace HV : Hid (Var w2 w.heap.size (lsaL s l)) := HV.out.below hb HV.out.lt
  clear hb c0 c1 c2 c3 c4 c5 c6 c7 c8 c9 c10 c11 z0 z1 z2 z3 z4 z5 z6
  obtain ⟨c0, c1, c2, c3, c4, c5, c6, c7, c8, c9, c10, c11⟩ := HV.out.box
  have z0 := HV.out.frozen 0
  have z1 := HV.out.frozen 1
  have z2 := HV.out.frozen 2
  have z3 := HV.out.frozen 3
  have z4 := HV.out.frozen 4
  have z5 := HV.out.frozen 5
  have z6 := HV.out.frozen 6
  have HV2 : Hid (Var (((((((w2.setCell ⟨w.heap.size, 0, none⟩ (.int .i64 (sealH l).age)).setCell ⟨w.heap.size, 1, none⟩ (.int .i64 (sealH l).kind)).setCell ⟨w.heap.size, 2, none⟩ (.int .i64 (sealH l).id)).setCell ⟨w.heap.size, 3, none⟩ (.int .i64 (sealH l).adv)).setCell ⟨w.heap.size, 4, none⟩ (.int .i64 (sealH l).seq)).setCell ⟨w.heap.size, 5, none⟩ (.int .i64 (sealH l).sum)).setCell ⟨w.heap.size, 6, none⟩ (.int .i64 (sealH l).len)) w.heap.size (lsaL s M)) := by rw [HM.out]; exact HV.out |>.set 0 (.int .i64 (sealH l).age) |>.set 1 (.int .i64 (sealH l).kind) |>.set 2 (.int .i64 (sealH l).id) |>.set 3 (.int .i64 (sealH l).adv) |>.set 4 (.int .i64 (sealH l).seq) |>.set 5 (.int .i64 (sealH l).sum) |>.set 6 (.int .i64 (sealH l).len)
  have HR2 : Hid (Var (((((((w2.setCell ⟨w.heap.size, 0, none⟩ (.int .i64 (sealH l).age)).setCell ⟨w.heap.size, 1, none⟩ (.int .i64 (sealH l).kind)).setCell ⟨w.heap.size, 2, none⟩ (.int .i64 (sealH l).id)).setCell ⟨w.heap.size, 3, none⟩ (.int .i64 (sealH l).adv)).setCell ⟨w.heap.size, 4, none⟩ (.int .i64 (sealH l).seq)).setCell ⟨w.heap.size, 5, none⟩ (.int .i64 (sealH l).sum)).setCell ⟨w.heap.size, 6, none⟩ (.int .i64 (sealH l).len)) (w.heap.size + 1) zero12) := HR.out.put7' (by omega) (.int .i64 (sealH l).age) (.int .i64 (sealH l).kind) (.int .i64 (sealH l).id) (.int .i64 (sealH l).adv) (.int .i64 (sealH l).seq) (.int .i64 (sealH l).sum) (.int .i64 (sealH l).len)
  have HB2 : Hid (Below w.heap.size w (((((((w2.setCell ⟨w.heap.size, 0, none⟩ (.int .i64 (sealH l).age)).setCell ⟨w.heap.size, 1, none⟩ (.int .i64 (sealH l).kind)).setCell ⟨w.heap.size, 2, none⟩ (.int .i64 (sealH l).id)).setCell ⟨w.heap.size, 3, none⟩ (.int .i64 (sealH l).adv)).setCell ⟨w.heap.size, 4, none⟩ (.int .i64 (sealH l).seq)).setCell ⟨w.heap.size, 5, none⟩ (.int .i64 (sealH l).sum)).setCell ⟨w.heap.size, 6, none⟩ (.int .i64 (sealH l).len))) := below_put7 HB.out (Nat.le_refl _) (.int .i64 (sealH l).age) (.int .i64 (sealH l).kind) (.int .i64 (sealH l).id) (.int .i64 (sealH l).adv) (.int .i64 (sealH l).seq) (.int .i64 (sealH l).sum) (.int .i64 (sealH l).len)
  have HH2 : Hid (Held w s M) := by rw [HM.out]; exact ⟨HH.out.hl, HH.out.hr, HH.out.hv⟩
  have HMI2 : Hid (Mid M) := by rw [HM.out]; exact ⟨HMI.out.hl, HMI.out.hr, HMI.out.hv⟩
  clear HV HR HB HH HMI
  go_upto_region 3 with fail
  generalize (((((((w2.setCell ⟨w.heap.size, 0, none⟩ (.int .i64 (sealH l).age)).setCell ⟨w.heap.size, 1, none⟩ (.int .i64 (sealH l).kind)).setCell ⟨w.heap.size, 2, none⟩ (.int .i64 (sealH l).id)).setCell ⟨w.heap.size, 3, none⟩ (.int .i64 (sealH l).adv)).setCell ⟨w.heap.size, 4, none⟩ (.int .i64 (sealH l).seq)).setCell ⟨w.heap.size, 5, none⟩ (.int .i64 (sealH l).sum)).setCell ⟨w.heap.size, 6, none⟩ (.int .i64 (sealH l).len)) = W3 at *
  clear c0 c1 c2 c3 c4 c5 c6 c7 c8 c9 c10 c11 z0 z1 z2 z3 z4 z5 z6 HM
  have HV := HV2
  have HR := HR2
  have HB := HB2
  have HH := HH2
  have HMI := HMI2
  clear HV2 HR2 HB2 HH2 HMI2
  obtain ⟨i, hi, hz0, hz1, hz2⟩ := info_parts info_link
  have c8 := HV.out.cell 8 rfl
  go_wp2_with (at_builtin; go_must (refine wp_append_lies _ rfl _ _ 35 rfl 93 i (.agg #[.int .i64 0, .int .i64 0, .int .i64 0, .int .i64 0]) 4 32 Try.underlying35 hi hz0 hz1 hz2 rfl (by decide) rfl s.la _ s.lc rfl (cellsOf linkC M.links) (len_links _) (HH.out.belowN HB.out (Nat.le_refl _)).hl (one_links _) HNI.out.hl (by have := HMI.out.hl; unfold maxLen; omega) (by have := HMI.out.hl; omega) ?_))
  intro a0 cp0 w10 hL hb hnl hfar
  have HA0 : Hid (Far (w.heap.size + 2) a0) := hfar.mono HR.out.lt
  replace HV : Hid (Var w10 w.heap.size [.int .i64 M.head.age, .int .i64 M.head.kind, .int .i64 M.head.id, .int .i64 M.head.adv, .int .i64 M.head.seq, .int .i64 M.head.sum, .int .i64 M.head.len, .int .i64 M.flags, .slice s.la M.links.length s.lc, .int .i64 M.bits, .slice s.ra M.routers.length s.rc, .slice s.va M.verts.length s.vc]) := HV.out.below hb HV.out.lt
  replace HR : Hid (Var w10 (w.heap.size + 1) zero12) := HR.out.below hb HR.out.lt
  replace HB : Hid (Below w.heap.size w w10) := below_more HB.out hb HB.out.size
  have HL0 : Hid (Lies w10 a0 (cellsOf linkC M.links)) := hL
  have HQ0 : Hid (a0 = none → cp0 = 0) := hnl
  clear hL hnl hb hfar c8 hi hz0 hz1 hz2 i
  have c8 := HV.out.cell 8 rfl
  have z8 := HV.out.frozen 8
  replace HV : Hid (Var (w10.setCell ⟨w.heap.size, 8, none⟩ (.slice a0 M.links.length cp0)) w.heap.size [.int .i64 M.head.age, .int .i64 M.head.kind, .int .i64 M.head.id, .int .i64 M.head.adv, .int .i64 M.head.seq, .int .i64 M.head.sum, .int .i64 M.head.len, .int .i64 M.flags, .slice a0 M.links.length cp0, .int .i64 M.bits, .slice s.ra M.routers.length s.rc, .slice s.va M.verts.length s.vc]) := HV.out.set 8 _
  replace HR : Hid (Var (w10.setCell ⟨w.heap.size, 8, none⟩ (.slice a0 M.links.length cp0)) (w.heap.size + 1) zero12) := HR.out.other (by omega) _ _
  replace HB : Hid (Below w.heap.size w (w10.setCell ⟨w.heap.size, 8, none⟩ (.slice a0 M.links.length cp0))) := HB.out.setCell (p := ⟨w.heap.size, 8, none⟩) (Nat.le_refl _) _
  replace HL0 : Hid (Lies (w10.setCell ⟨w.heap.size, 8, none⟩ (.slice a0 M.links.length cp0)) a0 _) := HL0.out.set (p := ⟨w.heap.size, 8, none⟩) HA0.out (by show w.heap.size < w.heap.size + 2; omega) _
  go_upto_region 4 with fail
  generalize w10.setCell ⟨w.heap.size, 8, none⟩ (.slice a0 M.links.length cp0) = V0 at *
  clear c8 z8
  obtain ⟨i, hi, hz0, hz1, hz2⟩ := info_parts info_int
  have c10 := HV.out.cell 10 rfl
  go_wp2_with (at_builtin; go_must (refine wp_append_lies _ rfl _ _ 36 rfl 3 i (.int .i64 0) 1 8 Try.underlying36 hi hz0 hz1 hz2 rfl (by decide) rfl s.ra _ s.rc rfl (cellsOf intC M.routers) (len_ints _) (HH.out.belowN HB.out (Nat.le_refl _)).hr (one_ints _) HNI.out.hr (by have := HMI.out.hr; unfold maxLen; omega) (by have := HMI.out.hr; omega) ?_))
  intro a1 cp1 w11 hL hb hnl hfar
  have HA1 : Hid (Far (w.heap.size + 2) a1) := hfar.mono HR.out.lt
  replace HV : Hid (Var w11 w.heap.size [.int .i64 M.head.age, .int .i64 M.head.kind, .int .i64 M.head.id, .int .i64 M.head.adv, .int .i64 M.head.seq, .int .i64 M.head.sum, .int .i64 M.head.len, .int .i64 M.flags, .slice a0 M.links.length cp0, .int .i64 M.bits, .slice s.ra M.routers.length s.rc, .slice s.va M.verts.length s.vc]) := HV.out.below hb HV.out.lt
  replace HR : Hid (Var w11 (w.heap.size + 1) zero12) := HR.out.below hb HR.out.lt
  replace HB : Hid (Below w.heap.size w w11) := below_more HB.out hb HB.out.size
  replace HL0 : Hid (Lies w11 a0 _) := HL0.out.below hb
  have HL1 : Hid (Lies w11 a1 (cellsOf intC M.routers)) := hL
  have HQ1 : Hid (a1 = none → cp1 = 0) := hnl
  clear hL hnl hb hfar c10 hi hz0 hz1 hz2 i
  have c10 := HV.out.cell 10 rfl
  have z10 := HV.out.frozen 10
  replace HV : Hid (Var (w11.setCell ⟨w.heap.size, 10, none⟩ (.slice a1 M.routers.length cp1)) w.heap.size [.int .i64 M.head.age, .int .i64 M.head.kind, .int .i64 M.head.id, .int .i64 M.head.adv, .int .i64 M.head.seq, .int .i64 M.head.sum, .int .i64 M.head.len, .int .i64 M.flags, .slice a0 M.links.length cp0, .int .i64 M.bits, .slice a1 M.routers.length cp1, .slice s.va M.verts.length s.vc]) := HV.out.set 10 _
  replace HR : Hid (Var (w11.setCell ⟨w.heap.size, 10, none⟩ (.slice a1 M.routers.length cp1)) (w.heap.size + 1) zero12) := HR.out.other (by omega) _ _
  replace HB : Hid (Below w.heap.size w (w11.setCell ⟨w.heap.size, 10, none⟩ (.slice a1 M.routers.length cp1))) := HB.out.setCell (p := ⟨w.heap.size, 10, none⟩) (Nat.le_refl _) _
  replace HL0 : Hid (Lies (w11.setCell ⟨w.heap.size, 10, none⟩ (.slice a1 M.routers.length cp1)) a0 _) := HL0.out.set (p := ⟨w.heap.size, 10, none⟩) HA0.out (by show w.heap.size < w.heap.size + 2; omega) _
  replace HL1 : Hid (Lies (w11.setCell ⟨w.heap.size, 10, none⟩ (.slice a1 M.routers.length cp1)) a1 _) := HL1.out.set (p := ⟨w.heap.size, 10, none⟩) HA1.out (by show w.heap.size < w.heap.size + 2; omega) _
  go_upto_region 5 with fail
  generalize w11.setCell ⟨w.heap.size, 10, none⟩ (.slice a1 M.routers.length cp1) = V1 at *
  clear c10 z10
  obtain ⟨i, hi, hz0, hz1, hz2⟩ := info_parts info_vert
  have c11 := HV.out.cell 11 rfl
  go_wp2_with (at_builtin; go_must (refine wp_append_lies _ rfl _ _ 37 rfl 64 i (.agg #[.int .i64 0, .int .i64 0]) 2 16 Try.underlying37 hi hz0 hz1 hz2 rfl (by decide) rfl s.va _ s.vc rfl (cellsOf vertC M.verts) (len_verts _) (HH.out.belowN HB.out (Nat.le_refl _)).hv (one_verts _) HNI.out.hv (by have := HMI.out.hv; unfold maxLen; omega) (by have := HMI.out.hv; omega) ?_))
  intro a2 cp2 w12 hL hb hnl hfar
  have HA2 : Hid (Far (w.heap.size + 2) a2) := hfar.mono HR.out.lt
  replace HV : Hid (Var w12 w.heap.size [.int .i64 M.head.age, .int .i64 M.head.kind, .int .i64 M.head.id, .int .i64 M.head.adv, .int .i64 M.head.seq, .int .i64 M.head.sum, .int .i64 M.head.len, .int .i64 M.flags, .slice a0 M.links.length cp0, .int .i64 M.bits, .slice a1 M.routers.length cp1, .slice s.va M.verts.length s.vc]) := HV.out.below hb HV.out.lt
  replace HR : Hid (Var w12 (w.heap.size + 1) zero12) := HR.out.below hb HR.out.lt
  replace HB : Hid (Below w.heap.size w w12) := below_more HB.out hb HB.out.size
  replace HL0 : Hid (Lies w12 a0 _) := HL0.out.below hb
  replace HL1 : Hid (Lies w12 a1 _) := HL1.out.below hb
  have HL2 : Hid (Lies w12 a2 (cellsOf vertC M.verts)) := hL
  have HQ2 : Hid (a2 = none → cp2 = 0) := hnl
  clear hL hnl hb hfar c11 hi hz0 hz1 hz2 i
  have c11 := HV.out.cell 11 rfl
  have z11 := HV.out.frozen 11
  replace HV : Hid (Var (w12.setCell ⟨w.heap.size, 11, none⟩ (.slice a2 M.verts.length cp2)) w.heap.size [.int .i64 M.head.age, .int .i64 M.head.kind, .int .i64 M.head.id, .int .i64 M.head.adv, .int .i64 M.head.seq, .int .i64 M.head.sum, .int .i64 M.head.len, .int .i64 M.flags, .slice a0 M.links.length cp0, .int .i64 M.bits, .slice a1 M.routers.length cp1, .slice a2 M.verts.length cp2]) := HV.out.set 11 _
  replace HR : Hid (Var (w12.setCell ⟨w.heap.size, 11, none⟩ (.slice a2 M.verts.length cp2)) (w.heap.size + 1) zero12) := HR.out.other (by omega) _ _
  replace HB : Hid (Below w.heap.size w (w12.setCell ⟨w.heap.size, 11, none⟩ (.slice a2 M.verts.length cp2))) := HB.out.setCell (p := ⟨w.heap.size, 11, none⟩) (Nat.le_refl _) _
  replace HL0 : Hid (Lies (w12.setCell ⟨w.heap.size, 11, none⟩ (.slice a2 M.verts.length cp2)) a0 _) := HL0.out.set (p := ⟨w.heap.size, 11, none⟩) HA0.out (by show w.heap.size < w.heap.size + 2; omega) _
  replace HL1 : Hid (Lies (w12.setCell ⟨w.heap.size, 11, none⟩ (.slice a2 M.verts.length cp2)) a1 _) := HL1.out.set (p := ⟨w.heap.size, 11, none⟩) HA1.out (by show w.heap.size < w.heap.size + 2; omega) _
  replace HL2 : Hid (Lies (w12.setCell ⟨w.heap.size, 11, none⟩ (.slice a2 M.verts.length cp2)) a2 _) := HL2.out.set (p := ⟨w.heap.size, 11, none⟩) HA2.out (by show w.heap.size < w.heap.size + 2; omega) _
  go_upto_region 6 with fail
  generalize w12.setCell ⟨w.heap.size, 11, none⟩ (.slice a2 M.verts.length cp2) = V2 at *
  clear c11 z11
  have c0 := HV.out.cell 0 rfl
  have r0 := HR.out.cell 0 rfl
  have q0 := HR.out.frozen 0
  have c1 := HV.out.cell 1 rfl
  have r1 := HR.out.cell 1 rfl
  have q1 := HR.out.frozen 1
  have c2 := HV.out.cell 2 rfl
  have r2 := HR.out.cell 2 rfl
  have q2 := HR.out.frozen 2
  have c3 := HV.out.cell 3 rfl
  have r3 := HR.out.cell 3 rfl
  have q3 := HR.out.frozen 3
  have c4 := HV.out.cell 4 rfl
  have r4 := HR.out.cell 4 rfl
  have q4 := HR.out.frozen 4
  have c5 := HV.out.cell 5 rfl
  have r5 := HR.out.cell 5 rfl
  have q5 := HR.out.frozen 5
  have c6 := HV.out.cell 6 rfl
  have r6 := HR.out.cell 6 rfl
  have q6 := HR.out.frozen 6
  have c7 := HV.out.cell 7 rfl
  have r7 := HR.out.cell 7 rfl
  have q7 := HR.out.frozen 7
  have c8 := HV.out.cell 8 rfl
  have r8 := HR.out.cell 8 rfl
  have q8 := HR.out.frozen 8
  have c9 := HV.out.cell 9 rfl
  have r9 := HR.out.cell 9 rfl
  have q9 := HR.out.frozen 9
  have c10 := HV.out.cell 10 rfl
  have r10 := HR.out.cell 10 rfl
  have q10 := HR.out.frozen 10
  have c11 := HV.out.cell 11 rfl
  have r11 := HR.out.cell 11 rfl
  have q11 := HR.out.frozen 11
  go_wp2_with fail
  have HZ := HR.out.put12 (.int .i64 M.head.age) (.int .i64 M.head.kind) (.int .i64 M.head.id) (.int .i64 M.head.adv) (.int .i64 M.head.seq) (.int .i64 M.head.sum) (.int .i64 M.head.len) (.int .i64 M.flags) (.slice a0 M.links.length cp0) (.int .i64 M.bits) (.slice a1 M.routers.length cp1) (.slice a2 M.verts.length cp2)
  have HK := below_put12 HB.out (Nat.le_succ w.heap.size) (.int .i64 M.head.age) (.int .i64 M.head.kind) (.int .i64 M.head.id) (.int .i64 M.head.adv) (.int .i64 M.head.seq) (.int .i64 M.head.sum) (.int .i64 M.head.len) (.int .i64 M.flags) (.slice a0 M.links.length cp0) (.int .i64 M.bits) (.slice a1 M.routers.length cp1) (.slice a2 M.verts.length cp2)
  have HY : Hid (Held ((((((((((((V2.setCell ⟨w.heap.size + 1, 0, none⟩ (.int .i64 M.head.age)).setCell ⟨w.heap.size + 1, 1, none⟩ (.int .i64 M.head.kind)).setCell ⟨w.heap.size + 1, 2, none⟩ (.int .i64 M.head.id)).setCell ⟨w.heap.size + 1, 3, none⟩ (.int .i64 M.head.adv)).setCell ⟨w.heap.size + 1, 4, none⟩ (.int .i64 M.head.seq)).setCell ⟨w.heap.size + 1, 5, none⟩ (.int .i64 M.head.sum)).setCell ⟨w.heap.size + 1, 6, none⟩ (.int .i64 M.head.len)).setCell ⟨w.heap.size + 1, 7, none⟩ (.int .i64 M.flags)).setCell ⟨w.heap.size + 1, 8, none⟩ (.slice a0 M.links.length cp0)).setCell ⟨w.heap.size + 1, 9, none⟩ (.int .i64 M.bits)).setCell ⟨w.heap.size + 1, 10, none⟩ (.slice a1 M.routers.length cp1)).setCell ⟨w.heap.size + 1, 11, none⟩ (.slice a2 M.verts.length cp2)) ⟨a0, cp0, a1, cp1, a2, cp2⟩ M) := ⟨HL0.out.put12 HA0.out (Nat.lt_succ_self _) (.int .i64 M.head.age) (.int .i64 M.head.kind) (.int .i64 M.head.id) (.int .i64 M.head.adv) (.int .i64 M.head.seq) (.int .i64 M.head.sum) (.int .i64 M.head.len) (.int .i64 M.flags) (.slice a0 M.links.length cp0) (.int .i64 M.bits) (.slice a1 M.routers.length cp1) (.slice a2 M.verts.length cp2), HL1.out.put12 HA1.out (Nat.lt_succ_self _) (.int .i64 M.head.age) (.int .i64 M.head.kind) (.int .i64 M.head.id) (.int .i64 M.head.adv) (.int .i64 M.head.seq) (.int .i64 M.head.sum) (.int .i64 M.head.len) (.int .i64 M.flags) (.slice a0 M.links.length cp0) (.int .i64 M.bits) (.slice a1 M.routers.length cp1) (.slice a2 M.verts.length cp2), HL2.out.put12 HA2.out (Nat.lt_succ_self _) (.int .i64 M.head.age) (.int .i64 M.head.kind) (.int .i64 M.head.id) (.int .i64 M.head.adv) (.int .i64 M.head.seq) (.int .i64 M.head.sum) (.int .i64 M.head.len) (.int .i64 M.flags) (.slice a0 M.links.length cp0) (.int .i64 M.bits) (.slice a1 M.routers.length cp1) (.slice a2 M.verts.length cp2)⟩
  clear c0 r0 q0 c1 r1 q1 c2 r2 q2 c3 r3 q3 c4 r4 q4 c5 r5 q5 c6 r6 q6 c7 r7 q7 c8 r8 q8 c9 r9 q9 c10 r10 q10 c11 r11 q11
  generalize ((((((((((((V2.setCell ⟨w.heap.size + 1, 0, none⟩ (.int .i64 M.head.age)).setCell ⟨w.heap.size + 1, 1, none⟩ (.int .i64 M.head.kind)).setCell ⟨w.heap.size + 1, 2, none⟩ (.int .i64 M.head.id)).setCell ⟨w.heap.size + 1, 3, none⟩ (.int .i64 M.head.adv)).setCell ⟨w.heap.size + 1, 4, none⟩ (.int .i64 M.head.seq)).setCell ⟨w.heap.size + 1, 5, none⟩ (.int .i64 M.head.sum)).setCell ⟨w.heap.size + 1, 6, none⟩ (.int .i64 M.head.len)).setCell ⟨w.heap.size + 1, 7, none⟩ (.int .i64 M.flags)).setCell ⟨w.heap.size + 1, 8, none⟩ (.slice a0 M.links.length cp0)).setCell ⟨w.heap.size + 1, 9, none⟩ (.int .i64 M.bits)).setCell ⟨w.heap.size + 1, 10, none⟩ (.slice a1 M.routers.length cp1)).setCell ⟨w.heap.size + 1, 11, none⟩ (.slice a2 M.verts.length cp2)) = Z at *
  have r0 := HZ.cell 0 rfl
  have r1 := HZ.cell 1 rfl
  have r2 := HZ.cell 2 rfl
  have r3 := HZ.cell 3 rfl
  have r4 := HZ.cell 4 rfl
  have r5 := HZ.cell 5 rfl
  have r6 := HZ.cell 6 rfl
  have r7 := HZ.cell 7 rfl
  have r8 := HZ.cell 8 rfl
  have r9 := HZ.cell 9 rfl
  have r10 := HZ.cell 10 rfl
  have r11 := HZ.cell 11 rfl
  refine bodyPost_ret (by simp [results, Try.results46, go_sem, r0, r1, r2, r3, r4, r5, r6, r7, r8, r9, r10, r11]; try rfl) rfl ?_
  exact ⟨⟨a0, cp0, a1, cp1, a2, cp2⟩, rfl, HY.out, ⟨HQ0.out, HQ1.out, HQ2.out⟩, HK⟩
theorem seal_any (s : Seats) (l : LsaZ) (w : World) (hH : Held w s l) (hf : Mid l) (hN : Nils s) :
    Calls Try.prog 46 #[.agg (lsaA s l)] w (SealEnd w (sealL l)) := by
  unfold sealL
  cases hr : rightLsaB l with
  | true => rw [if_pos rfl]; exact seal_yes s l w hH hf hN hr
  | false => rw [if_neg (by decide)]; exact seal_not s l w hH hf hN hr
end Go.Proofs.Ytmcemhkhgccojaa
