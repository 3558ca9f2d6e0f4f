/- Sealed: as package base asks it. -/
import Derived.Test.YtmcemhkhgccojaaX8A
import Derived.Deep.RegionWith
import Derived.Test.YtmcemhkhgccojaaS5D5
import Derived.Test.YtmcemhkhgccojaaY8E
import Derived.Test.YtmcemhkhgccojaaS7W2

namespace Go.Proofs.Ytmcemhkhgccojaa
open Go.RowKit
set_option linter.unusedVariables false
theorem fldG (a0 a1 a2 a3 a4 a5 a6 a7 a8 a9 a10 a11 : Value) (w : World) : Sem.run Try.prog (Instr.field 39 (.agg #[a0, a1, a2, a3, a4, a5, a6, a7, a8, a9, a10, a11]) 0) w = .ok (.agg #[a0, a1, a2, a3, a4, a5, a6]) w := by
  simp [Instr.field, go_sem]; rfl
set_option maxHeartbeats 3200000 in
theorem bSealed_not (s : Seats) (l : LsaZ) (w : World) (hH : Held w s l) (hf : Mid l) (hr : rightLsaB l = false) :
    Calls Try.prog 30 #[.agg (lsaA s l)] w fun e w' => e = .returned (.bool false) ∧ Below w.heap.size w w' := by
  have HX : Hid (Box (w.alloc (.cells (lsaA s l) 39)) w.heap.size s l) := box_new w s l
  have HB : Hid (Below w.heap.size w (w.alloc (.cells (lsaA s l) 39))) := below_new' _ _
  have HH : Hid (Held w s l) := hH
  have HF : Hid (Fits l) := hf.fits
  have HR : Hid (rightLsaB l = false) := hr
  clear hH hf hr
  go_enter Try.func30, Try.ntmps30
  go_upto_region 1 with fail
  generalize w.alloc (.cells (lsaA s l) 39) = W at *
  obtain ⟨c0, c1, c2, c3, c4, c5, c6, c7, c8, c9, c10, c11⟩ := HX.out
  have hR := rightLsa_any s l W.drew (HH.out.below HB.out.drew) HF.out
  rw [HR.out] at hR
  have HBd : Hid (Below w.heap.size w W.drew) := HB.out.drew
  first | go_region_with (first | (go_at_call 45; refine hR.mono ?_; rintro e w' ⟨rfl, hk⟩)) | fail
  all_goals
    have HRR : Hid (Below w.heap.size w w') := below_more HBd.out hk HBd.out.size
    clear hk hR
    go_wp2
    go_ret
    exact ⟨rfl, HRR.out⟩
set_option maxHeartbeats 3200000 in
set_option maxRecDepth 20000 in
theorem bSealed_yes (s : Seats) (l : LsaZ) (w : World) (hH : Held w s l) (hf : Mid l) (hN : Nils s) (hr : rightLsaB l = true) :
    Calls Try.prog 30 #[.agg (lsaA s l)] w fun e w' => e = .returned (.bool (((sealH l).sum == l.head.sum) && ((sealH l).len == l.head.len))) ∧ Below w.heap.size w w' := by
  have HX : Hid (Box (w.alloc (.cells (lsaA s l) 39)) w.heap.size s l) := box_new w s l
  have HB : Hid (Below w.heap.size w (w.alloc (.cells (lsaA s l) 39))) := below_new' _ _
  have HH : Hid (Held w s l) := hH
  have hse : ∀ X, Held X s l → Calls Try.prog 46 #[.agg (lsaA s l)] X fun e w' => ∃ t : Seats, e = .returned (.agg #[.int .i64 l.head.age, .int .i64 l.head.kind, .int .i64 l.head.id, .int .i64 l.head.adv, .int .i64 l.head.seq, .int .i64 (sealH l).sum, .int .i64 (sealH l).len, .int .i64 l.flags, .slice t.la l.links.length t.lc, .int .i64 l.bits, .slice t.ra l.routers.length t.rc, .slice t.va l.verts.length t.vc]) ∧ Below X.heap.size X w' := fun X hX => (seal_yes s l X hX hf hN hr).mono fun e w' ⟨t, he, _, _, hb⟩ => ⟨t, by
    rw [he]
    have e1 := sealH_age l
    have e2 := sealH_kind l
    have e3 := sealH_id l
    have e4 := sealH_adv l
    have e5 := sealH_seq l
    rw [← e1, ← e2, ← e3, ← e4, ← e5]
    rfl, hb⟩
  have hri := fun X hX => rightLsa_any s l X hX hf.fits
  rw [hr] at hri
  clear hH hf hN hr
  obtain ⟨B, hB⟩ : ∃ B, (((sealH l).sum == l.head.sum) && ((sealH l).len == l.head.len)) = B := ⟨_, rfl⟩
  have HQ : Hid (_ = B) := hB
  rw [hB]
  clear hB
  generalize (sealH l).sum = SM at *
  generalize (sealH l).len = LN at *
  go_enter Try.func30, Try.ntmps30
  go_upto_region 1 with fail
  generalize w.alloc (.cells (lsaA s l) 39) = W at *
  have FR : ∀ X, Below W.heap.size W X → Calls Try.prog 45 #[.agg #[.int .i64 l.head.age, .int .i64 l.head.kind, .int .i64 l.head.id, .int .i64 l.head.adv, .int .i64 l.head.seq, .int .i64 l.head.sum, .int .i64 l.head.len, .int .i64 l.flags, .slice s.la l.links.length s.lc, .int .i64 l.bits, .slice s.ra l.routers.length s.rc, .slice s.va l.verts.length s.vc]] X fun e w' => e = .returned (.bool true) ∧ Hid (Below W.heap.size W w') := fun X hX => (hri X (HH.out.below (below_more HB.out hX HB.out.size))).mono fun e w' ⟨he, hb⟩ => ⟨he, hX.trans (hb.mono hX.size)⟩
  have FS : ∀ X, Below W.heap.size W X → Calls Try.prog 46 #[.agg #[.int .i64 l.head.age, .int .i64 l.head.kind, .int .i64 l.head.id, .int .i64 l.head.adv, .int .i64 l.head.seq, .int .i64 l.head.sum, .int .i64 l.head.len, .int .i64 l.flags, .slice s.la l.links.length s.lc, .int .i64 l.bits, .slice s.ra l.routers.length s.rc, .slice s.va l.verts.length s.vc]] X fun e w' => ∃ t : Seats, e = .returned (.agg #[.int .i64 l.head.age, .int .i64 l.head.kind, .int .i64 l.head.id, .int .i64 l.head.adv, .int .i64 l.head.seq, .int .i64 SM, .int .i64 LN, .int .i64 l.flags, .slice t.la l.links.length t.lc, .int .i64 l.bits, .slice t.ra l.routers.length t.rc, .slice t.va l.verts.length t.vc]) ∧ Hid (Below W.heap.size W w') := fun X hX => (hse X (HH.out.below (below_more HB.out hX HB.out.size))).mono fun e w' ⟨t, he, hb⟩ => ⟨t, he, hX.trans (hb.mono hX.size)⟩
  have keepS : Hid (∀ X, Below W.heap.size W X → X.cell? ⟨w.heap.size, 0, none⟩ = some (.int .i64 l.head.age) ∧ X.cell? ⟨w.heap.size, 1, none⟩ = some (.int .i64 l.head.kind) ∧ X.cell? ⟨w.heap.size, 2, none⟩ = some (.int .i64 l.head.id) ∧ X.cell? ⟨w.heap.size, 3, none⟩ = some (.int .i64 l.head.adv) ∧ X.cell? ⟨w.heap.size, 4, none⟩ = some (.int .i64 l.head.seq) ∧ X.cell? ⟨w.heap.size, 5, none⟩ = some (.int .i64 l.head.sum) ∧ X.cell? ⟨w.heap.size, 6, none⟩ = some (.int .i64 l.head.len) ∧ X.cell? ⟨w.heap.size, 7, none⟩ = some (.int .i64 l.flags) ∧ X.cell? ⟨w.heap.size, 8, none⟩ = some (.slice s.la l.links.length s.lc) ∧ X.cell? ⟨w.heap.size, 9, none⟩ = some (.int .i64 l.bits) ∧ X.cell? ⟨w.heap.size, 10, none⟩ = some (.slice s.ra l.routers.length s.rc) ∧ X.cell? ⟨w.heap.size, 11, none⟩ = some (.slice s.va l.verts.length s.vc) ∧ Hid (Below W.heap.size W X)) := fun X hX => by
    obtain ⟨c0, c1, c2, c3, c4, c5, c6, c7, c8, c9, c10, c11⟩ := HX.out.below hX HX.out.lt
    exact ⟨c0, c1, c2, c3, c4, c5, c6, c7, c8, c9, c10, c11, hX⟩
  have hVd : Hid (Below W.heap.size W W.drew) := (Below.refl _ _).drew
  have hfl := fldG
  clear hri hse HX
  cases h1 : (SM == l.head.sum) <;> cases h2 : (LN == l.head.len)
  all_goals
    have hq := HQ.out
    rw [h1, h2] at hq
    simp only [Bool.and_true, Bool.and_false] at hq
    subst hq
    go_region_held3 (fun X => X.cell? ⟨w.heap.size, 0, none⟩ = some (.int .i64 l.head.age) ∧ X.cell? ⟨w.heap.size, 1, none⟩ = some (.int .i64 l.head.kind) ∧ X.cell? ⟨w.heap.size, 2, none⟩ = some (.int .i64 l.head.id) ∧ X.cell? ⟨w.heap.size, 3, none⟩ = some (.int .i64 l.head.adv) ∧ X.cell? ⟨w.heap.size, 4, none⟩ = some (.int .i64 l.head.seq) ∧ X.cell? ⟨w.heap.size, 5, none⟩ = some (.int .i64 l.head.sum) ∧ X.cell? ⟨w.heap.size, 6, none⟩ = some (.int .i64 l.head.len) ∧ X.cell? ⟨w.heap.size, 7, none⟩ = some (.int .i64 l.flags) ∧ X.cell? ⟨w.heap.size, 8, none⟩ = some (.slice s.la l.links.length s.lc) ∧ X.cell? ⟨w.heap.size, 9, none⟩ = some (.int .i64 l.bits) ∧ X.cell? ⟨w.heap.size, 10, none⟩ = some (.slice s.ra l.routers.length s.rc) ∧ X.cell? ⟨w.heap.size, 11, none⟩ = some (.slice s.va l.verts.length s.vc) ∧ Hid (Below W.heap.size W X)) (with_reducible first | exact keepS.out _ hVd.out | exact keepS.out _ hk1.out | exact keepS.out _ hk2.out | assumption)
      (first | (go_at_call 45; refine (FR _ (by go_split_ands; exact Hid.out (by assumption))).mono ?_; rintro e v1 ⟨rfl, hk1⟩) | (go_at_call 46; refine (FS _ (by go_split_ands; exact Hid.out (by assumption))).mono ?_; rintro e v2 ⟨t, rfl, hk2⟩))
    rename_i hH
    have HRR : Hid (Below w.heap.size w v2) := below_more HB.out hk2.out HB.out.size
    clear hH hk1 hk2 keepS FR FS
    go_wp2
    go_ret
    exact ⟨rfl, HRR.out⟩
theorem bSealed_any (s : Seats) (l : LsaZ) (w : World) (hH : Held w s l) (hf : Mid l) (hN : Nils s) :
    Calls Try.prog 30 #[.agg (lsaA s l)] w fun e w' => e = .returned (.bool (sealedB l)) ∧ Below w.heap.size w w' := by
  unfold sealedB
  cases hr : rightLsaB l with
  | true => rw [Bool.true_and]; exact bSealed_yes s l w hH hf hN hr
  | false => rw [Bool.false_and]; exact bSealed_not s l w hH hf hr
end Go.Proofs.Ytmcemhkhgccojaa
/- A copy with lists of its own. -/
namespace Go.Proofs.Ytmcemhkhgccojaa
open Go.RowKit
set_option linter.unusedVariables false

set_option maxHeartbeats 3200000 in
set_option maxRecDepth 20000 in
theorem clone_any (s : Seats) (l : LsaZ) (w : World) (hH : Held w s l) (hf : Mid l) (hN : Nils s) :
    Calls Try.prog 34 #[.agg (lsaA s l)] w (CopyEnd w l) := by
  have HV : Hid (Var ((w.alloc (.cells (lsaA s l) 39)).alloc (.cells zero12.toArray 39)) w.heap.size [.int .i64 l.head.age, .int .i64 l.head.kind, .int .i64 l.head.id, .int .i64 l.head.adv, .int .i64 l.head.seq, .int .i64 l.head.sum, .int .i64 l.head.len, .int .i64 l.flags, .slice s.la l.links.length s.lc, .int .i64 l.bits, .slice s.ra l.routers.length s.rc, .slice s.va l.verts.length s.vc]) := (var_new w (lsaL s l) _).alloc _
  have HR : Hid (Var ((w.alloc (.cells (lsaA s l) 39)).alloc (.cells zero12.toArray 39)) (w.heap.size + 1) zero12) := by
    have := var_new (w.alloc (.cells (lsaA s l) 39)) zero12 39
    rw [size_new] at this; exact this
  have HB : Hid (Below w.heap.size w ((w.alloc (.cells (lsaA s l) 39)).alloc (.cells zero12.toArray 39))) := (below_new' _ _).alloc (by simp) _
  have HH : Hid (Held w s l) := hH
  have HMI : Hid (Mid l) := hf
  have HNI : Hid (Nils s) := hN
  clear hH hf hN
  go_enter Try.func34, Try.ntmps34
  go_upto_region 1 with fail
  generalize ((w.alloc (.cells (lsaA s l) 39)).alloc (.cells zero12.toArray 39)) = U0 at *
  obtain ⟨i, hi, hz0, hz1, hz2⟩ := info_parts info_link
  have c := HV.out.cell 8 rfl
  go_wp2_with (at_builtin; go_must (refine wp_append_lies U0 rfl _ _ 35 rfl 93 i (.agg #[.int .i64 0, .int .i64 0, .int .i64 0, .int .i64 0]) 4 32 Try.underlying35 hi hz0 hz1 hz2 rfl (by decide) rfl s.la _ s.lc rfl (cellsOf linkC l.links) (len_links _) (HH.out.below HB.out).hl (one_links _) HNI.out.hl (by have := HMI.out.hl; unfold maxLen; omega) (by have := HMI.out.hl; omega) ?_))
  intro a0 cp0 w10 hL hb hnl hfar
  have HA0 : Hid (Far (w.heap.size + 2) a0) := hfar.mono HR.out.lt
  replace HV : Hid (Var w10 w.heap.size [.int .i64 l.head.age, .int .i64 l.head.kind, .int .i64 l.head.id, .int .i64 l.head.adv, .int .i64 l.head.seq, .int .i64 l.head.sum, .int .i64 l.head.len, .int .i64 l.flags, .slice s.la l.links.length s.lc, .int .i64 l.bits, .slice s.ra l.routers.length s.rc, .slice s.va l.verts.length s.vc]) := HV.out.below hb HV.out.lt
  replace HR : Hid (Var w10 (w.heap.size + 1) zero12) := HR.out.below hb HR.out.lt
  replace HB : Hid (Below w.heap.size w w10) := below_more HB.out hb HB.out.size
  have HL0 : Hid (Lies w10 a0 (cellsOf linkC l.links)) := hL
  have HQ0 : Hid (a0 = none → cp0 = 0) := hnl
  clear hL hnl hb hfar c hi hz0 hz1 hz2 i
  have c := HV.out.cell 8 rfl
  have z := HV.out.frozen 8
  replace HV : Hid (Var (w10.setCell ⟨w.heap.size, 8, none⟩ (.slice a0 l.links.length cp0)) w.heap.size [.int .i64 l.head.age, .int .i64 l.head.kind, .int .i64 l.head.id, .int .i64 l.head.adv, .int .i64 l.head.seq, .int .i64 l.head.sum, .int .i64 l.head.len, .int .i64 l.flags, .slice a0 l.links.length cp0, .int .i64 l.bits, .slice s.ra l.routers.length s.rc, .slice s.va l.verts.length s.vc]) := HV.out.set 8 _
  replace HR : Hid (Var (w10.setCell ⟨w.heap.size, 8, none⟩ (.slice a0 l.links.length cp0)) (w.heap.size + 1) zero12) := HR.out.other (by omega) _ _
  replace HB : Hid (Below w.heap.size w (w10.setCell ⟨w.heap.size, 8, none⟩ (.slice a0 l.links.length cp0))) := HB.out.setCell (p := ⟨w.heap.size, 8, none⟩) (Nat.le_refl _) _
  replace HL0 : Hid (Lies (w10.setCell ⟨w.heap.size, 8, none⟩ (.slice a0 l.links.length cp0)) a0 _) := HL0.out.set (p := ⟨w.heap.size, 8, none⟩) HA0.out (by show w.heap.size < w.heap.size + 2; omega) _
  go_upto_region 2 with fail
  generalize w10.setCell ⟨w.heap.size, 8, none⟩ (.slice a0 l.links.length cp0) = U1 at *
  clear c z
  obtain ⟨i, hi, hz0, hz1, hz2⟩ := info_parts info_int
  have c := HV.out.cell 10 rfl
  go_wp2_with (at_builtin; go_must (refine wp_append_lies U1 rfl _ _ 36 rfl 3 i (.int .i64 0) 1 8 Try.underlying36 hi hz0 hz1 hz2 rfl (by decide) rfl s.ra _ s.rc rfl (cellsOf intC l.routers) (len_ints _) (HH.out.below HB.out).hr (one_ints _) HNI.out.hr (by have := HMI.out.hr; unfold maxLen; omega) (by have := HMI.out.hr; omega) ?_))
  intro a1 cp1 w11 hL hb hnl hfar
  have HA1 : Hid (Far (w.heap.size + 2) a1) := hfar.mono HR.out.lt
  replace HV : Hid (Var w11 w.heap.size [.int .i64 l.head.age, .int .i64 l.head.kind, .int .i64 l.head.id, .int .i64 l.head.adv, .int .i64 l.head.seq, .int .i64 l.head.sum, .int .i64 l.head.len, .int .i64 l.flags, .slice a0 l.links.length cp0, .int .i64 l.bits, .slice s.ra l.routers.length s.rc, .slice s.va l.verts.length s.vc]) := HV.out.below hb HV.out.lt
  replace HR : Hid (Var w11 (w.heap.size + 1) zero12) := HR.out.below hb HR.out.lt
  replace HB : Hid (Below w.heap.size w w11) := below_more HB.out hb HB.out.size
  replace HL0 : Hid (Lies w11 a0 _) := HL0.out.below hb
  have HL1 : Hid (Lies w11 a1 (cellsOf intC l.routers)) := hL
  have HQ1 : Hid (a1 = none → cp1 = 0) := hnl
  clear hL hnl hb hfar c hi hz0 hz1 hz2 i
  have c := HV.out.cell 10 rfl
  have z := HV.out.frozen 10
  replace HV : Hid (Var (w11.setCell ⟨w.heap.size, 10, none⟩ (.slice a1 l.routers.length cp1)) w.heap.size [.int .i64 l.head.age, .int .i64 l.head.kind, .int .i64 l.head.id, .int .i64 l.head.adv, .int .i64 l.head.seq, .int .i64 l.head.sum, .int .i64 l.head.len, .int .i64 l.flags, .slice a0 l.links.length cp0, .int .i64 l.bits, .slice a1 l.routers.length cp1, .slice s.va l.verts.length s.vc]) := HV.out.set 10 _
  replace HR : Hid (Var (w11.setCell ⟨w.heap.size, 10, none⟩ (.slice a1 l.routers.length cp1)) (w.heap.size + 1) zero12) := HR.out.other (by omega) _ _
  replace HB : Hid (Below w.heap.size w (w11.setCell ⟨w.heap.size, 10, none⟩ (.slice a1 l.routers.length cp1))) := HB.out.setCell (p := ⟨w.heap.size, 10, none⟩) (Nat.le_refl _) _
  replace HL0 : Hid (Lies (w11.setCell ⟨w.heap.size, 10, none⟩ (.slice a1 l.routers.length cp1)) a0 _) := HL0.out.set (p := ⟨w.heap.size, 10, none⟩) HA0.out (by show w.heap.size < w.heap.size + 2; omega) _
  replace HL1 : Hid (Lies (w11.setCell ⟨w.heap.size, 10, none⟩ (.slice a1 l.routers.length cp1)) a1 _) := HL1.out.set (p := ⟨w.heap.size, 10, none⟩) HA1.out (by show w.heap.size < w.heap.size + 2; omega) _
  go_upto_region 3 with fail
  generalize w11.setCell ⟨w.heap.size, 10, none⟩ (.slice a1 l.routers.length cp1) = U2 at *
  clear c z
  obtain ⟨i, hi, hz0, hz1, hz2⟩ := info_parts info_vert
  have c := HV.out.cell 11 rfl
  go_wp2_with (at_builtin; go_must (refine wp_append_lies U2 rfl _ _ 37 rfl 64 i (.agg #[.int .i64 0, .int .i64 0]) 2 16 Try.underlying37 hi hz0 hz1 hz2 rfl (by decide) rfl s.va _ s.vc rfl (cellsOf vertC l.verts) (len_verts _) (HH.out.below HB.out).hv (one_verts _) HNI.out.hv (by have := HMI.out.hv; unfold maxLen; omega) (by have := HMI.out.hv; omega) ?_))
  intro a2 cp2 w12 hL hb hnl hfar
  have HA2 : Hid (Far (w.heap.size + 2) a2) := hfar.mono HR.out.lt
  replace HV : Hid (Var w12 w.heap.size [.int .i64 l.head.age, .int .i64 l.head.kind, .int .i64 l.head.id, .int .i64 l.head.adv, .int .i64 l.head.seq, .int .i64 l.head.sum, .int .i64 l.head.len, .int .i64 l.flags, .slice a0 l.links.length cp0, .int .i64 l.bits, .slice a1 l.routers.length cp1, .slice s.va l.verts.length s.vc]) := HV.out.below hb HV.out.lt
  replace HR : Hid (Var w12 (w.heap.size + 1) zero12) := HR.out.below hb HR.out.lt
  replace HB : Hid (Below w.heap.size w w12) := below_more HB.out hb HB.out.size
  replace HL0 : Hid (Lies w12 a0 _) := HL0.out.below hb
  replace HL1 : Hid (Lies w12 a1 _) := HL1.out.below hb
  have HL2 : Hid (Lies w12 a2 (cellsOf vertC l.verts)) := hL
  have HQ2 : Hid (a2 = none → cp2 = 0) := hnl
  clear hL hnl hb hfar c hi hz0 hz1 hz2 i
  have c := HV.out.cell 11 rfl
  have z := HV.out.frozen 11
  replace HV : Hid (Var (w12.setCell ⟨w.heap.size, 11, none⟩ (.slice a2 l.verts.length cp2)) w.heap.size [.int .i64 l.head.age, .int .i64 l.head.kind, .int .i64 l.head.id, .int .i64 l.head.adv, .int .i64 l.head.seq, .int .i64 l.head.sum, .int .i64 l.head.len, .int .i64 l.flags, .slice a0 l.links.length cp0, .int .i64 l.bits, .slice a1 l.routers.length cp1, .slice a2 l.verts.length cp2]) := HV.out.set 11 _
  replace HR : Hid (Var (w12.setCell ⟨w.heap.size, 11, none⟩ (.slice a2 l.verts.length cp2)) (w.heap.size + 1) zero12) := HR.out.other (by omega) _ _
  replace HB : Hid (Below w.heap.size w (w12.setCell ⟨w.heap.size, 11, none⟩ (.slice a2 l.verts.length cp2))) := HB.out.setCell (p := ⟨w.heap.size, 11, none⟩) (Nat.le_refl _) _
  replace HL0 : Hid (Lies (w12.setCell ⟨w.heap.size, 11, none⟩ (.slice a2 l.verts.length cp2)) a0 _) := HL0.out.set (p := ⟨w.heap.size, 11, none⟩) HA0.out (by show w.heap.size < w.heap.size + 2; omega) _
  replace HL1 : Hid (Lies (w12.setCell ⟨w.heap.size, 11, none⟩ (.slice a2 l.verts.length cp2)) a1 _) := HL1.out.set (p := ⟨w.heap.size, 11, none⟩) HA1.out (by show w.heap.size < w.heap.size + 2; omega) _
  replace HL2 : Hid (Lies (w12.setCell ⟨w.heap.size, 11, none⟩ (.slice a2 l.verts.length cp2)) a2 _) := HL2.out.set (p := ⟨w.heap.size, 11, none⟩) HA2.out (by show w.heap.size < w.heap.size + 2; omega) _
  go_upto_region 4 with fail
  generalize w12.setCell ⟨w.heap.size, 11, none⟩ (.slice a2 l.verts.length cp2) = U3 at *
  clear c z
  have K3 : Hid (Var ((((((((((((U3.setCell ⟨w.heap.size + 1, 0, none⟩ (.int .i64 l.head.age)).setCell ⟨w.heap.size + 1, 1, none⟩ (.int .i64 l.head.kind)).setCell ⟨w.heap.size + 1, 2, none⟩ (.int .i64 l.head.id)).setCell ⟨w.heap.size + 1, 3, none⟩ (.int .i64 l.head.adv)).setCell ⟨w.heap.size + 1, 4, none⟩ (.int .i64 l.head.seq)).setCell ⟨w.heap.size + 1, 5, none⟩ (.int .i64 l.head.sum)).setCell ⟨w.heap.size + 1, 6, none⟩ (.int .i64 l.head.len)).setCell ⟨w.heap.size + 1, 7, none⟩ (.int .i64 l.flags)).setCell ⟨w.heap.size + 1, 8, none⟩ (.slice a0 l.links.length cp0)).setCell ⟨w.heap.size + 1, 9, none⟩ (.int .i64 l.bits)).setCell ⟨w.heap.size + 1, 10, none⟩ (.slice a1 l.routers.length cp1)).setCell ⟨w.heap.size + 1, 11, none⟩ (.slice a2 l.verts.length cp2)) (w.heap.size + 1) [.int .i64 l.head.age, .int .i64 l.head.kind, .int .i64 l.head.id, .int .i64 l.head.adv, .int .i64 l.head.seq, .int .i64 l.head.sum, .int .i64 l.head.len, .int .i64 l.flags, .slice a0 l.links.length cp0, .int .i64 l.bits, .slice a1 l.routers.length cp1, .slice a2 l.verts.length cp2]) := HR.out.put12 (.int .i64 l.head.age) (.int .i64 l.head.kind) (.int .i64 l.head.id) (.int .i64 l.head.adv) (.int .i64 l.head.seq) (.int .i64 l.head.sum) (.int .i64 l.head.len) (.int .i64 l.flags) (.slice a0 l.links.length cp0) (.int .i64 l.bits) (.slice a1 l.routers.length cp1) (.slice a2 l.verts.length cp2)
  have K2 : Hid (Below w.heap.size w ((((((((((((U3.setCell ⟨w.heap.size + 1, 0, none⟩ (.int .i64 l.head.age)).setCell ⟨w.heap.size + 1, 1, none⟩ (.int .i64 l.head.kind)).setCell ⟨w.heap.size + 1, 2, none⟩ (.int .i64 l.head.id)).setCell ⟨w.heap.size + 1, 3, none⟩ (.int .i64 l.head.adv)).setCell ⟨w.heap.size + 1, 4, none⟩ (.int .i64 l.head.seq)).setCell ⟨w.heap.size + 1, 5, none⟩ (.int .i64 l.head.sum)).setCell ⟨w.heap.size + 1, 6, none⟩ (.int .i64 l.head.len)).setCell ⟨w.heap.size + 1, 7, none⟩ (.int .i64 l.flags)).setCell ⟨w.heap.size + 1, 8, none⟩ (.slice a0 l.links.length cp0)).setCell ⟨w.heap.size + 1, 9, none⟩ (.int .i64 l.bits)).setCell ⟨w.heap.size + 1, 10, none⟩ (.slice a1 l.routers.length cp1)).setCell ⟨w.heap.size + 1, 11, none⟩ (.slice a2 l.verts.length cp2))) := below_put12 HB.out (by omega) (.int .i64 l.head.age) (.int .i64 l.head.kind) (.int .i64 l.head.id) (.int .i64 l.head.adv) (.int .i64 l.head.seq) (.int .i64 l.head.sum) (.int .i64 l.head.len) (.int .i64 l.flags) (.slice a0 l.links.length cp0) (.int .i64 l.bits) (.slice a1 l.routers.length cp1) (.slice a2 l.verts.length cp2)
  have K0 : Hid (Lies ((((((((((((U3.setCell ⟨w.heap.size + 1, 0, none⟩ (.int .i64 l.head.age)).setCell ⟨w.heap.size + 1, 1, none⟩ (.int .i64 l.head.kind)).setCell ⟨w.heap.size + 1, 2, none⟩ (.int .i64 l.head.id)).setCell ⟨w.heap.size + 1, 3, none⟩ (.int .i64 l.head.adv)).setCell ⟨w.heap.size + 1, 4, none⟩ (.int .i64 l.head.seq)).setCell ⟨w.heap.size + 1, 5, none⟩ (.int .i64 l.head.sum)).setCell ⟨w.heap.size + 1, 6, none⟩ (.int .i64 l.head.len)).setCell ⟨w.heap.size + 1, 7, none⟩ (.int .i64 l.flags)).setCell ⟨w.heap.size + 1, 8, none⟩ (.slice a0 l.links.length cp0)).setCell ⟨w.heap.size + 1, 9, none⟩ (.int .i64 l.bits)).setCell ⟨w.heap.size + 1, 10, none⟩ (.slice a1 l.routers.length cp1)).setCell ⟨w.heap.size + 1, 11, none⟩ (.slice a2 l.verts.length cp2)) a0 _) := HL0.out.put12 HA0.out (by omega) (.int .i64 l.head.age) (.int .i64 l.head.kind) (.int .i64 l.head.id) (.int .i64 l.head.adv) (.int .i64 l.head.seq) (.int .i64 l.head.sum) (.int .i64 l.head.len) (.int .i64 l.flags) (.slice a0 l.links.length cp0) (.int .i64 l.bits) (.slice a1 l.routers.length cp1) (.slice a2 l.verts.length cp2)
  have K1 : Hid (Lies ((((((((((((U3.setCell ⟨w.heap.size + 1, 0, none⟩ (.int .i64 l.head.age)).setCell ⟨w.heap.size + 1, 1, none⟩ (.int .i64 l.head.kind)).setCell ⟨w.heap.size + 1, 2, none⟩ (.int .i64 l.head.id)).setCell ⟨w.heap.size + 1, 3, none⟩ (.int .i64 l.head.adv)).setCell ⟨w.heap.size + 1, 4, none⟩ (.int .i64 l.head.seq)).setCell ⟨w.heap.size + 1, 5, none⟩ (.int .i64 l.head.sum)).setCell ⟨w.heap.size + 1, 6, none⟩ (.int .i64 l.head.len)).setCell ⟨w.heap.size + 1, 7, none⟩ (.int .i64 l.flags)).setCell ⟨w.heap.size + 1, 8, none⟩ (.slice a0 l.links.length cp0)).setCell ⟨w.heap.size + 1, 9, none⟩ (.int .i64 l.bits)).setCell ⟨w.heap.size + 1, 10, none⟩ (.slice a1 l.routers.length cp1)).setCell ⟨w.heap.size + 1, 11, none⟩ (.slice a2 l.verts.length cp2)) a1 _) := HL1.out.put12 HA1.out (by omega) (.int .i64 l.head.age) (.int .i64 l.head.kind) (.int .i64 l.head.id) (.int .i64 l.head.adv) (.int .i64 l.head.seq) (.int .i64 l.head.sum) (.int .i64 l.head.len) (.int .i64 l.flags) (.slice a0 l.links.length cp0) (.int .i64 l.bits) (.slice a1 l.routers.length cp1) (.slice a2 l.verts.length cp2)
  have K4 : Hid (Lies ((((((((((((U3.setCell ⟨w.heap.size + 1, 0, none⟩ (.int .i64 l.head.age)).setCell ⟨w.heap.size + 1, 1, none⟩ (.int .i64 l.head.kind)).setCell ⟨w.heap.size + 1, 2, none⟩ (.int .i64 l.head.id)).setCell ⟨w.heap.size + 1, 3, none⟩ (.int .i64 l.head.adv)).setCell ⟨w.heap.size + 1, 4, none⟩ (.int .i64 l.head.seq)).setCell ⟨w.heap.size + 1, 5, none⟩ (.int .i64 l.head.sum)).setCell ⟨w.heap.size + 1, 6, none⟩ (.int .i64 l.head.len)).setCell ⟨w.heap.size + 1, 7, none⟩ (.int .i64 l.flags)).setCell ⟨w.heap.size + 1, 8, none⟩ (.slice a0 l.links.length cp0)).setCell ⟨w.heap.size + 1, 9, none⟩ (.int .i64 l.bits)).setCell ⟨w.heap.size + 1, 10, none⟩ (.slice a1 l.routers.length cp1)).setCell ⟨w.heap.size + 1, 11, none⟩ (.slice a2 l.verts.length cp2)) a2 _) := HL2.out.put12 HA2.out (by omega) (.int .i64 l.head.age) (.int .i64 l.head.kind) (.int .i64 l.head.id) (.int .i64 l.head.adv) (.int .i64 l.head.seq) (.int .i64 l.head.sum) (.int .i64 l.head.len) (.int .i64 l.flags) (.slice a0 l.links.length cp0) (.int .i64 l.bits) (.slice a1 l.routers.length cp1) (.slice a2 l.verts.length cp2)
  have y0 := HV.out.cell 0 rfl
  have y1 := HV.out.cell 1 rfl
  have y2 := HV.out.cell 2 rfl
  have y3 := HV.out.cell 3 rfl
  have y4 := HV.out.cell 4 rfl
  have y5 := HV.out.cell 5 rfl
  have y6 := HV.out.cell 6 rfl
  have y7 := HV.out.cell 7 rfl
  have y8 := HV.out.cell 8 rfl
  have y9 := HV.out.cell 9 rfl
  have y10 := HV.out.cell 10 rfl
  have y11 := HV.out.cell 11 rfl
  have r0 := HR.out.cell 0 rfl
  have q0 := HR.out.frozen 0
  have r1 := HR.out.cell 1 rfl
  have q1 := HR.out.frozen 1
  have r2 := HR.out.cell 2 rfl
  have q2 := HR.out.frozen 2
  have r3 := HR.out.cell 3 rfl
  have q3 := HR.out.frozen 3
  have r4 := HR.out.cell 4 rfl
  have q4 := HR.out.frozen 4
  have r5 := HR.out.cell 5 rfl
  have q5 := HR.out.frozen 5
  have r6 := HR.out.cell 6 rfl
  have q6 := HR.out.frozen 6
  have r7 := HR.out.cell 7 rfl
  have q7 := HR.out.frozen 7
  have r8 := HR.out.cell 8 rfl
  have q8 := HR.out.frozen 8
  have r9 := HR.out.cell 9 rfl
  have q9 := HR.out.frozen 9
  have r10 := HR.out.cell 10 rfl
  have q10 := HR.out.frozen 10
  have r11 := HR.out.cell 11 rfl
  have q11 := HR.out.frozen 11
  go_wp2
  clear y0 r0 q0 y1 r1 q1 y2 r2 q2 y3 r3 q3 y4 r4 q4 y5 r5 q5 y6 r6 q6 y7 r7 q7 y8 r8 q8 y9 r9 q9 y10 r10 q10 y11 r11 q11
  generalize ((((((((((((U3.setCell ⟨w.heap.size + 1, 0, none⟩ (.int .i64 l.head.age)).setCell ⟨w.heap.size + 1, 1, none⟩ (.int .i64 l.head.kind)).setCell ⟨w.heap.size + 1, 2, none⟩ (.int .i64 l.head.id)).setCell ⟨w.heap.size + 1, 3, none⟩ (.int .i64 l.head.adv)).setCell ⟨w.heap.size + 1, 4, none⟩ (.int .i64 l.head.seq)).setCell ⟨w.heap.size + 1, 5, none⟩ (.int .i64 l.head.sum)).setCell ⟨w.heap.size + 1, 6, none⟩ (.int .i64 l.head.len)).setCell ⟨w.heap.size + 1, 7, none⟩ (.int .i64 l.flags)).setCell ⟨w.heap.size + 1, 8, none⟩ (.slice a0 l.links.length cp0)).setCell ⟨w.heap.size + 1, 9, none⟩ (.int .i64 l.bits)).setCell ⟨w.heap.size + 1, 10, none⟩ (.slice a1 l.routers.length cp1)).setCell ⟨w.heap.size + 1, 11, none⟩ (.slice a2 l.verts.length cp2)) = Z at *
  have c0 := K3.out.cell 0 rfl
  have c1 := K3.out.cell 1 rfl
  have c2 := K3.out.cell 2 rfl
  have c3 := K3.out.cell 3 rfl
  have c4 := K3.out.cell 4 rfl
  have c5 := K3.out.cell 5 rfl
  have c6 := K3.out.cell 6 rfl
  have c7 := K3.out.cell 7 rfl
  have c8 := K3.out.cell 8 rfl
  have c9 := K3.out.cell 9 rfl
  have c10 := K3.out.cell 10 rfl
  have c11 := K3.out.cell 11 rfl
  refine bodyPost_ret (by simp [results, Try.results34, go_sem, c0, c1, c2, c3, c4, c5, c6, c7, c8, c9, c10, c11]; try rfl) rfl ?_
  exact ⟨⟨a0, cp0, a1, cp1, a2, cp2⟩, rfl, ⟨K0.out, K1.out, K4.out⟩, ⟨HQ0.out, HQ1.out, HQ2.out⟩, K2.out, HA0.out.mono (by omega), HA1.out.mono (by omega), HA2.out.mono (by omega)⟩
end Go.Proofs.Ytmcemhkhgccojaa
/- A new database; what turned; small facts. -/
namespace Go.Proofs.Ytmcemhkhgccojaa
open Go.RowKit

/-- Nothing but the blocks b and g (and what is new) has turned. -/
structure Turned (b : Nat) (g : Option Nat) (w w' : World) : Prop where
  os : w'.os = w.os
  tape : w'.tape = w.tape
  output : w'.output = w.output
  size : w.heap.size ≤ w'.heap.size
  block : ∀ k, k < w.heap.size → k ≠ b → some k ≠ g → w'.heap[k]? = w.heap[k]?
theorem Turned.of (b : Nat) (g : Option Nat) {w w' : World} (h : Below w.heap.size w w') : Turned b g w w' := ⟨h.os, h.tape, h.output, h.size, fun k hk _ _ => h.block k hk⟩
theorem Turned.trans {b : Nat} {g : Option Nat} {u v w : World} (h : Turned b g u v) (k : Turned b g v w) : Turned b g u w :=
  ⟨k.os.trans h.os, k.tape.trans h.tape, k.output.trans h.output, Nat.le_trans h.size k.size, fun i hi h1 h2 => (k.block i (Nat.lt_of_lt_of_le hi h.size) h1 h2).trans (h.block i hi h1 h2)⟩
theorem Turned.grown {b : Nat} {g : Option Nat} {w w' : World} (h : w.grownBy w' g) : Turned b g w w' := ⟨h.os, h.tape, h.output, h.size, fun k hk _ h2 => h.block k hk h2⟩
theorem Turned.set (b : Nat) (g : Option Nat) (w : World) (p : Addr) (v : Value) (hp : p.block = b ∨ some p.block = g) : Turned b g w (w.setCell p v) :=
  ⟨rfl, rfl, rfl, by simp [World.setCell], fun k hk h1 h2 => Below.heap_setCell _ _ _ _ (by
    rcases hp with h | h
    · omega
    · rintro rfl; exact h2 h)⟩
theorem Turned.below {b : Nat} {g : Option Nat} {w w' : World} {N : Nat} (h : Turned b g w w') (hN : N ≤ w.heap.size) (hb : N ≤ b) (hg : ∀ k, g = some k → N ≤ k) : Below N w w' :=
  ⟨h.os, h.tape, h.output, h.size, fun k hk => h.block k (by omega) (by omega) (by rintro rfl; have := hg k rfl; omega)⟩
theorem Turned.cell {b : Nat} {g : Option Nat} {w w' : World} (h : Turned b g w w') (x : Addr) (hx : x.block < w.heap.size) (h1 : x.block ≠ b) (h2 : some x.block ≠ g) : w'.cell? x = w.cell? x := World.cell?_of_block (w := w) (h.block x.block hx h1 h2)
theorem Lies.lt {w : World} {a : Option Addr} {vs : List Value} (h : Lies w a vs) (hv : vs ≠ []) : ∃ b off, a = some ⟨b, off, none⟩ ∧ b < w.heap.size := by
  rcases h with h | ⟨b, off, rfl, hc⟩
  · exact absurd h hv
  · refine ⟨b, off, rfl, ?_⟩
    have h0 := hc 0 (List.length_pos_iff.2 hv)
    rcases Nat.lt_or_ge b w.heap.size with h' | h'
    · exact h'
    · rw [List.getElem?_eq_getElem (List.length_pos_iff.2 hv)] at h0
      simp [World.cell?, Array.getElem?_eq_none h'] at h0
theorem Lies.turned {w w' : World} {b : Nat} {g : Option Nat} {a : Option Addr} {vs : List Value} (h : Lies w a vs) (ht : Turned b g w w') (h1 : OffA b a vs) (h2 : ∀ k, g = some k → OffA k a vs) : Lies w' a vs := by
  by_cases hv : vs = []
  · exact .inl hv
  · obtain ⟨k, off, rfl, hk⟩ := h.lt hv
    rcases h with h | ⟨k', off', e, hc⟩
    · exact absurd h hv
    · cases e
      exact .inr ⟨k, off, rfl, fun i hi => by rw [ht.cell ⟨k, off + i, none⟩ hk (h1 hv ⟨k, off, none⟩ rfl) (fun e => h2 k e.symm hv ⟨k, off, none⟩ rfl rfl)]; exact hc i hi⟩
theorem Held.turned {w w' : World} {b : Nat} {g : Option Nat} {r : Row} (h : Held w r.1 r.2) (ht : Turned b g w w') (h1 : Off b r) (h2 : ∀ k, g = some k → Off k r) : Held w' r.1 r.2 :=
  ⟨h.hl.turned ht h1.1 fun k hk => (h2 k hk).1, h.hr.turned ht h1.2.1 fun k hk => (h2 k hk).2.1, h.hv.turned ht h1.2.2 fun k hk => (h2 k hk).2.2⟩
theorem offA_far {g N : Nat} {a : Option Addr} {vs : List Value} (h : Far N a) (hg : g < N) : OffA g a vs := fun _ x hx => by have := h x hx; omega
theorem offA_old {w : World} {g : Nat} {a : Option Addr} {vs : List Value} (h : Lies w a vs) (hg : w.heap.size ≤ g) : OffA g a vs := fun hv x hx => by
  obtain ⟨k, off, e, hk⟩ := h.lt hv
  rw [e] at hx
  cases hx
  show k ≠ g
  omega
theorem off_far {g N : Nat} {r : Row} (h1 : Far N r.1.la) (h2 : Far N r.1.ra) (h3 : Far N r.1.va) (hg : g < N) : Off g r := ⟨offA_far h1 hg, offA_far h2 hg, offA_far h3 hg⟩
theorem off_old {w : World} {g : Nat} {r : Row} (h : Held w r.1 r.2) (hg : w.heap.size ≤ g) : Off g r := ⟨offA_old h.hl hg, offA_old h.hr hg, offA_old h.hv hg⟩
/-- Where the rows are written: the row's own block, or a new one. -/
theorem hence_off {w : World} {v v' : Value} {L : List Row} (h : Hence w v v') (hH : ∀ r ∈ L, Held w r.1 r.2) (ho : ∀ r ∈ L, ∀ g, v.ownBlock = some g → Off g r) : ∀ r ∈ L, ∀ g, v'.ownBlock = some g → Off g r := by
  intro r hr g hg
  rcases h with h | h
  · exact ho r hr g (by rw [← h]; exact hg)
  · exact off_old (hH r hr) (h g hg)
theorem hence_ne {w : World} {v v' : Value} {b : Nat} (h : Hence w v v') (hv : v.ownBlock ≠ some b) (hb : b < w.heap.size) : v'.ownBlock ≠ some b := by
  rcases h with h | h
  · rw [h]; exact hv
  · intro e; have := h b e; omega
theorem hence_below {w w0 : World} {v v' : Value} (h : Hence w v v') (hs : w0.heap.size ≤ w.heap.size) : Hence w0 v v' := h.imp id fun h k hk => Nat.le_trans hs (h k hk)
theorem own_set {w : World} {N b : Nat} {v : Value} {n : Nat} {xs : List Value} {e : TypeId} {size : Nat} (h : w.ownsRow N e size v n xs) (hv : v.ownBlock ≠ some b) (i : Nat) (u : Value) : (w.setCell ⟨b, i, none⟩ u).ownsRow N e size v n xs := by
  refine ⟨h.1, h.2.imp id ?_⟩
  rintro ⟨g, cap, cur, rfl, h2, h3, r⟩
  refine ⟨g, cap, cur, rfl, h2, ?_, r⟩
  rw [Below.heap_setCell _ _ _ _ (by rintro rfl; exact hv rfl)]; exact h3
theorem sealed_right {l : LsaZ} (h : sealedB l = true) : rightLsaB l = true := by unfold sealedB at h; rw [Bool.and_eq_true] at h; exact h.1
theorem sealed_age {l : LsaZ} (h : sealedB l = true) : 0 ≤ l.head.age ∧ l.head.age ≤ 3600 := by
  have := right_age (sealed_right h); unfold amongB at this; simpa using this
set_option maxHeartbeats 800000 in
theorem new_any (most : Int) (w : World) (h1 : 1 ≤ most) (h2 : most ≤ 512) :
    Calls Try.prog 7 #[.int .i64 most] w fun e w' => e = .returned (.tuple #[.pointer (some ⟨w.heap.size, 0, none⟩), .int .i64 0]) ∧ w' = w.alloc (.cells #[.int .i64 most, .slice none 0 0] 70) := by
  go_enter Try.func7, Try.ntmps7
  go_wp2
  exact bodyPost_ret (v := .tuple #[.pointer (some ⟨w.heap.size, 0, none⟩), .int .i64 0]) (by simp [results, Try.results7, go_sem]) rfl ⟨rfl, rfl⟩
/-- Rows that were made anew (or turned), in their place in the object. -/
theorem Keeps.put {w w1 : World} {N b : Nat} {most : Int} {v v' : Value} {L M : List Row} (h : Keeps w N b most v L) (hown : w1.ownsRow N 39 12 v' M.length (cellsOf rowC M)) (hg : Turned b v.ownBlock w w1) (hob : w1.heap[b]? = w.heap[b]?) (hh : Hence w v v')
    (hM : ∀ r ∈ M, Held w r.1 r.2 ∧ Nils r.1 ∧ Mid r.2 ∧ sealedB r.2 = true ∧ Off b r ∧ (∀ g, v.ownBlock = some g → Off g r)) (hR : Rising M) (hl : M.length ≤ 1000000) : Keeps (w1.setCell ⟨b, 1, none⟩ v') N b most v' M := by
  have hne := hence_ne hh h.ne h.obj.lt
  have ht : Turned b v.ownBlock w (w1.setCell ⟨b, 1, none⟩ v') := hg.trans (Turned.set b _ w1 ⟨b, 1, none⟩ v' (.inl rfl))
  refine ⟨?_, h.lo, own_set hown hne 1 v', hne, fun r hr => (hM r hr).1.turned ht (hM r hr).2.2.2.2.1 (hM r hr).2.2.2.2.2, fun r hr => (hM r hr).2.1, fun r hr => (hM r hr).2.2.1, fun r hr => (hM r hr).2.2.2.1, fun r hr => (hM r hr).2.2.2.2.1, ?_, hR, hl⟩
  · obtain ⟨t, ho⟩ := h.obj
    have hv : Var w1 b [.int .i64 most, v] := ⟨t, by rw [hob]; exact ho⟩
    exact hv.set 1 v'
  · exact hence_off hh (fun r hr => (hM r hr).1) (fun r hr => (hM r hr).2.2.2.2.2)
theorem Keeps.row {w : World} {N b : Nat} {most : Int} {v : Value} {L : List Row} (h : Keeps w N b most v L) {r : Row} (hr : r ∈ L) : Held w r.1 r.2 ∧ Nils r.1 ∧ Mid r.2 ∧ sealedB r.2 = true ∧ Off b r ∧ (∀ g, v.ownBlock = some g → Off g r) :=
  ⟨h.held r hr, h.nils r hr, h.mid r hr, h.shut r hr, h.offb r hr, h.offg r hr⟩
theorem new_keeps (w : World) (most : Int) : Keeps (w.alloc (.cells #[.int .i64 most, .slice none 0 0] 70)) w.heap.size w.heap.size most (.slice none 0 0) [] where
  obj := var_new w [.int .i64 most, .slice none 0 0] _
  lo := Nat.le_refl _
  own := World.ownsRow_nil _ _ _ _
  ne := by simp [Value.ownBlock]
  held := fun r h => absurd h (by simp)
  nils := fun r h => absurd h (by simp)
  mid := fun r h => absurd h (by simp)
  shut := fun r h => absurd h (by simp)
  offb := fun r h => absurd h (by simp)
  offg := fun r h => absurd h (by simp)
  rising := List.Pairwise.nil
  len := by simp
end Go.Proofs.Ytmcemhkhgccojaa
/- Put: what is refused. -/
namespace Go.Proofs.Ytmcemhkhgccojaa
open Go.RowKit

theorem ret_i {a b : Int} (h : a = b) : Ending.returned (.int .i64 a) = .returned (.int .i64 b) := by rw [h]
set_option maxHeartbeats 800000 in
theorem put_nil (s : Seats) (l : LsaZ) (w : World) :
    Calls Try.prog 10 #[.pointer none, .agg (lsaA s l)] w fun e w' => e = .returned (.int .i64 7) ∧ Below w.heap.size w w' := by
  go_enter Try.func10, Try.ntmps10
  go_wp2
  go_ret
  exact ⟨rfl, below_new' _ _⟩
set_option maxHeartbeats 3200000 in
theorem put_bad (N b : Nat) (most : Int) (lv : Value) (L : List Row) (s : Seats) (l : LsaZ) (w : World) (h : Keeps w N b most lv L) (hH : Held w s l) (hf : Mid l) (hN : Nils s) (hs : sealedB l = false) :
    Calls Try.prog 10 #[.pointer (some ⟨b, 0, none⟩), .agg (lsaA s l)] w fun e w' => e = .returned (.int .i64 1) ∧ Below w.heap.size w w' := by
  obtain ⟨a, c, rfl, hL, hLc, hcm, hanil, hag⟩ := h.lies
  have HB : Hid (Below w.heap.size w (w.alloc (.cells (lsaA s l) 39))) := below_new' _ _
  have HK : Hid (Keeps w N b most (.slice a L.length c) L) := h
  have HX : Hid (Box (w.alloc (.cells (lsaA s l) 39)) w.heap.size s l) := box_new w s l
  have HH : Hid (Held w s l) := hH
  have HMI : Hid (Mid l) := hf
  have HNI : Hid (Nils s) := hN
  have HSE : Hid (sealedB l = false) := hs
  clear hs
  clear h hL hH hf hN hLc hcm hanil hag
  go_enter Try.func10, Try.ntmps10
  go_upto_region 3 with fail
  generalize w.alloc (.cells (lsaA s l) 39) = W at *
  obtain ⟨c0, c1, c2, c3, c4, c5, c6, c7, c8, c9, c10, c11⟩ := HX.out
  go_wp2_with fail
  refine (bSealed_any s l _ (HH.out.below HB.out) HMI.out HNI.out).mono ?_
  rintro e w1 ⟨rfl, hb⟩
  rw [HSE.out]
  have HX1 : Hid (Box w1 w.heap.size s l) := HX.out.below hb HX.out.lt
  replace HB : Hid (Below w.heap.size w w1) := below_more HB.out hb HB.out.size
  clear hb HX c0 c1 c2 c3 c4 c5 c6 c7 c8 c9 c10 c11
  go_wp2
  go_ret
  exact ⟨rfl, HB.out⟩
set_option maxHeartbeats 3200000 in
theorem put_old (N b : Nat) (most : Int) (lv : Value) (L : List Row) (s : Seats) (l : LsaZ) (w : World) (h : Keeps w N b most lv L) (hH : Held w s l) (hf : Mid l) (hN : Nils s) (p : Nat) (r : Row) (hpo : posZ L (keyZ l.head) = p) (hr : L[p]? = some r) (hk : rk r = keyZ l.head) (hs : sealedB l = true) (hc : 0 < newI r.2.head.age r.2.head.seq r.2.head.sum l.head.age l.head.seq l.head.sum) :
    Calls Try.prog 10 #[.pointer (some ⟨b, 0, none⟩), .agg (lsaA s l)] w fun e w' => e = .returned (.int .i64 9) ∧ Below w.heap.size w w' := by
  obtain ⟨a, c, rfl, hL, hLc, hcm, hanil, hag⟩ := h.lies
  have HB : Hid (Below w.heap.size w (w.alloc (.cells (lsaA s l) 39))) := below_new' _ _
  have HK : Hid (Keeps w N b most (.slice a L.length c) L) := h
  have HX : Hid (Box (w.alloc (.cells (lsaA s l) 39)) w.heap.size s l) := box_new w s l
  have HH : Hid (Held w s l) := hH
  have HMI : Hid (Mid l) := hf
  have HNI : Hid (Nils s) := hN
  have HSE : Hid (sealedB l = true) := hs
  have HTH : Hid (thereB L (keyZ l.head) = true) := by
    show thereB L (keyZ l.head) = true
    unfold thereB; rw [hpo, hr]; show (agZ (rk r) (keyZ l.head) == 0) = true; rw [hk, agZ_self]; rfl
  obtain ⟨hp, hr'⟩ := List.getElem?_eq_some_iff.1 hr
  obtain ⟨g, off, rfl, hrow⟩ := DB.at hL p hp
  rw [hr'] at hrow
  obtain rfl : off = 0 := by
    obtain ⟨g', e, -⟩ := hag _ rfl
    simp only [Addr.mk.injEq] at e; exact e.2.1
  obtain ⟨g', e, hNg, hgw, hgb⟩ := hag _ rfl
  obtain rfl : g = g' := by simp only [Addr.mk.injEq] at e; exact e.1
  have HMEM : Hid (r ∈ L) := by show r ∈ L; rw [← hr']; exact List.getElem_mem hp
  have HIr : Hid (In64 r.2.head.age) := by
    have := sealed_age (h.shut _ HMEM.out)
    show In64 _; unfold In64; omega
  have HIl : Hid (In64 l.head.age) := by
    have := sealed_age hs
    show In64 _; unfold In64; omega
  have HC : Hid (0 < newI r.2.head.age r.2.head.seq r.2.head.sum l.head.age l.head.seq l.head.sum) := hc
  have HPO : Hid (posZ L (keyZ l.head) = p) := hpo
  have HRr : Hid (L[p]? = some r) := hr
  have HKr : Hid (rk r = keyZ l.head) := hk
  have HRow : Hid (RowAt w g (0 + p * 12) r) := hrow
  rw [Nat.zero_add] at HRow
  have hlen : L.length ≤ 1000000 := h.len
  have hlc : (L.length : Int) ≤ (c : Int) := by omega
  clear hs hc hk e hr hr' hrow hpo
  clear h hL hH hf hN hLc hcm hanil hag
  go_enter Try.func10, Try.ntmps10
  go_upto_region 3 with fail
  generalize w.alloc (.cells (lsaA s l) 39) = W at *
  obtain ⟨c0, c1, c2, c3, c4, c5, c6, c7, c8, c9, c10, c11⟩ := HX.out
  go_wp2_with fail
  refine (bSealed_any s l _ (HH.out.below HB.out) HMI.out HNI.out).mono ?_
  rintro e w1 ⟨rfl, hb⟩
  rw [HSE.out]
  have HX1 : Hid (Box w1 w.heap.size s l) := HX.out.below hb HX.out.lt
  replace HB : Hid (Below w.heap.size w w1) := below_more HB.out hb HB.out.size
  clear hb HX c0 c1 c2 c3 c4 c5 c6 c7 c8 c9 c10 c11
  obtain ⟨c0, c1, c2, c3, c4, c5, c6, c7, c8, c9, c10, c11⟩ := HX1.out
  go_wp2_with fail
  refine (keyOf_any l.head _).mono ?_
  rintro e w2 ⟨rfl, hb⟩
  have HX2 : Hid (Box w2 w.heap.size s l) := HX1.out.below hb HX1.out.lt
  replace HB : Hid (Below w.heap.size w w2) := below_more HB.out hb HB.out.size
  clear hb HX1 c0 c1 c2 c3 c4 c5 c6 c7 c8 c9 c10 c11
  have CF := find_any N b most _ L (keyZ l.head) w2 (HK.out.below HB.out)
  go_wp2_with fail
  refine CF.mono ?_
  rintro e w3 ⟨rfl, hb⟩
  have HX3 : Hid (Box w3 w.heap.size s l) := HX2.out.below hb HX2.out.lt
  replace HB : Hid (Below w.heap.size w w3) := below_more HB.out hb HB.out.size
  clear hb HX2 CF
  rw [HTH.out, HPO.out]
  have keepS : Hid (∀ X, Below w3.heap.size w3 X → X.cell? ⟨b, 1, none⟩ = some (.slice (some ⟨g, 0, none⟩) L.length c) ∧ X.cell? ⟨g, p * 12, none⟩ = some (.int .i64 r.2.head.age) ∧ X.cell? ⟨g, p * 12 + 1, none⟩ = some (.int .i64 r.2.head.kind) ∧ X.cell? ⟨g, p * 12 + 2, none⟩ = some (.int .i64 r.2.head.id) ∧ X.cell? ⟨g, p * 12 + 3, none⟩ = some (.int .i64 r.2.head.adv) ∧ X.cell? ⟨g, p * 12 + 4, none⟩ = some (.int .i64 r.2.head.seq) ∧ X.cell? ⟨g, p * 12 + 5, none⟩ = some (.int .i64 r.2.head.sum) ∧ X.cell? ⟨g, p * 12 + 6, none⟩ = some (.int .i64 r.2.head.len) ∧ X.cell? ⟨w.heap.size, 0, none⟩ = some (.int .i64 l.head.age) ∧ X.cell? ⟨w.heap.size, 1, none⟩ = some (.int .i64 l.head.kind) ∧ X.cell? ⟨w.heap.size, 2, none⟩ = some (.int .i64 l.head.id) ∧ X.cell? ⟨w.heap.size, 3, none⟩ = some (.int .i64 l.head.adv) ∧ X.cell? ⟨w.heap.size, 4, none⟩ = some (.int .i64 l.head.seq) ∧ X.cell? ⟨w.heap.size, 5, none⟩ = some (.int .i64 l.head.sum) ∧ X.cell? ⟨w.heap.size, 6, none⟩ = some (.int .i64 l.head.len)) := by
    intro X hX
    have HBX : Below w.heap.size w X := below_more HB.out hX HB.out.size
    have h1 := (HK.out.below HBX).obj
    obtain ⟨c0, c1, c2, c3, c4, c5, c6, -, -, -, -, -⟩ := HRow.out.below HBX HRow.out.lt
    obtain ⟨d0, d1, d2, d3, d4, d5, d6, -, -, -, -, -⟩ := HX3.out.below hX HX3.out.lt
    exact ⟨h1.cell 1 rfl, c0, c1, c2, c3, c4, c5, c6, d0, d1, d2, d3, d4, d5, d6⟩
  have hS := keepS.out _ (Below.refl _ _).drew
  have CA : Calls _ _ _ _ _ := (cmp_i r.2.head.age r.2.head.kind r.2.head.id r.2.head.adv r.2.head.seq r.2.head.sum r.2.head.len l.head.age l.head.kind l.head.id l.head.adv l.head.seq l.head.sum l.head.len w3.drew HIr.out HIl.out).mono (R' := fun e w' => e = .returned (.int .i64 (newI r.2.head.age r.2.head.seq r.2.head.sum l.head.age l.head.seq l.head.sum)) ∧ Below w3.heap.size w3 w') fun e w' h => ⟨h.1, ((Below.refl _ _).drew).trans h.2⟩
  generalize newI r.2.head.age r.2.head.seq r.2.head.sum l.head.age l.head.seq l.head.sum = V at *
  have hV := HC.out
  go_upto_region 7 with fail
  go_region_held3 (fun X => X.cell? ⟨b, 1, none⟩ = some (.slice (some ⟨g, 0, none⟩) L.length c) ∧ X.cell? ⟨g, p * 12, none⟩ = some (.int .i64 r.2.head.age) ∧ X.cell? ⟨g, p * 12 + 1, none⟩ = some (.int .i64 r.2.head.kind) ∧ X.cell? ⟨g, p * 12 + 2, none⟩ = some (.int .i64 r.2.head.id) ∧ X.cell? ⟨g, p * 12 + 3, none⟩ = some (.int .i64 r.2.head.adv) ∧ X.cell? ⟨g, p * 12 + 4, none⟩ = some (.int .i64 r.2.head.seq) ∧ X.cell? ⟨g, p * 12 + 5, none⟩ = some (.int .i64 r.2.head.sum) ∧ X.cell? ⟨g, p * 12 + 6, none⟩ = some (.int .i64 r.2.head.len) ∧ X.cell? ⟨w.heap.size, 0, none⟩ = some (.int .i64 l.head.age) ∧ X.cell? ⟨w.heap.size, 1, none⟩ = some (.int .i64 l.head.kind) ∧ X.cell? ⟨w.heap.size, 2, none⟩ = some (.int .i64 l.head.id) ∧ X.cell? ⟨w.heap.size, 3, none⟩ = some (.int .i64 l.head.adv) ∧ X.cell? ⟨w.heap.size, 4, none⟩ = some (.int .i64 l.head.seq) ∧ X.cell? ⟨w.heap.size, 5, none⟩ = some (.int .i64 l.head.sum) ∧ X.cell? ⟨w.heap.size, 6, none⟩ = some (.int .i64 l.head.len)) (with_reducible first | exact hS | exact keepS.out _ hk | assumption | fail) (first | (go_at_call 33; refine CA.mono ?_; rintro e w4 ⟨rfl, hk⟩))
  rename_i hSx
  have HX4 : Hid (Box w4 w.heap.size s l) := HX3.out.below hk HX3.out.lt
  replace HB : Hid (Below w.heap.size w w4) := below_more HB.out hk HB.out.size
  clear hk CA hS hSx keepS HX3
  go_wp2
  go_ret
  exact ⟨rfl, HB.out⟩
end Go.Proofs.Ytmcemhkhgccojaa
/- Put: what is new. -/
namespace Go.Proofs.Ytmcemhkhgccojaa
open Go.RowKit

/-- Insert serves at that place. -/
def InsOk (L : List Row) (p : Nat) : Prop := ∀ (N : Nat) (a : Option Addr) (c vb : Nat) (r : Row) (w : World), N ≤ w.heap.size → w.ownsRow N 39 12 (.slice a L.length c) L.length (cellsOf rowC L) → L.length ≤ 1000000000 →
    w.heap[vb]? = some (.cells (rowC r).toArray 39 (0, 0)) → (∀ x, a = some x → vb ≠ x.block) →
    Calls Try.prog 35 #[.slice a L.length c, .int .i64 p, .slice (some ⟨vb, 0, none⟩) 1 1] w (InsEnd w N (.slice a L.length c) (L.take p ++ r :: L.drop p))
theorem lies_block {w : World} {vb : Nat} {vs : List Value} {t : TypeId} (h : w.heap[vb]? = some (.cells vs.toArray t (0, 0))) : Lies w (some ⟨vb, 0, none⟩) vs :=
  .inr ⟨vb, 0, rfl, fun i hi => by simp [World.cell?, h]⟩
theorem insOk_end (L : List Row) (p : Nat) (hp : p = L.length) : InsOk L p := by
  subst hp
  intro N a c vb r w hN hown hl hv hne
  rw [List.take_length, List.drop_length]
  exact ins_end N a c L vb r w hN hown hl (lies_block hv)
/-- What Insert leaves lies somewhere. -/
theorem ins_some {w w' : World} {N : Nat} {v : Value} {M : List Row} {e : Ending} (h : InsEnd w N v M e w') (hM : M ≠ []) : ∃ g cp, e = .returned (.slice (some ⟨g, 0, none⟩) M.length cp) ∧ w'.ownsRow N 39 12 (.slice (some ⟨g, 0, none⟩) M.length cp) M.length (cellsOf rowC M) ∧ w.grownBy w' v.ownBlock ∧ Hence w v (.slice (some ⟨g, 0, none⟩) M.length cp) := by
  obtain ⟨lv, rfl, ho, hg, hh⟩ := h
  rcases ho.2 with ⟨_, h2⟩ | ⟨g, cap, cur, rfl, _⟩
  · exact absurd (List.eq_nil_of_length_eq_zero h2) hM
  · exact ⟨g, cap, rfl, ho, hg, hh⟩
/-- One more among the rows. -/
def insL (L : List Row) (p : Nat) (r : Row) : List Row := L.take p ++ r :: L.drop p
theorem insL_len (L : List Row) (p : Nat) (r : Row) : (insL L p r).length = L.length + 1 := by unfold insL; simp; omega
theorem insL_mem {L : List Row} {p : Nat} {r x : Row} (h : x ∈ insL L p r) : x = r ∨ x ∈ L := by
  unfold insL at h
  rcases List.mem_append.1 h with h | h
  · exact .inr (List.mem_of_mem_take h)
  · rcases List.mem_cons.1 h with h | h
    · exact .inl h
    · exact .inr (List.mem_of_mem_drop h)
/-- How Put ends where it keeps what it is handed. -/
def PutOk (w : World) (N b : Nat) (most : Int) (v : Value) (f : Seats → List Row) (e : Ending) (w' : World) : Prop := ∃ lv s', e = .returned (.int .i64 0) ∧ Keeps w' N b most lv (f s') ∧ Turned b v.ownBlock w w' ∧ Hence w v lv
/-- Lists that lie in memory that is not below. -/
def FarR (N : Nat) (s : Seats) : Prop := Far N s.la ∧ Far N s.ra ∧ Far N s.va
theorem FarR.off {N k : Nat} {s : Seats} {l : LsaZ} (h : FarR N s) (hk : k < N) : Off k (s, l) := off_far h.1 h.2.1 h.2.2 hk
/-- So too, and where the lists of what was put lie. -/
def PutOn (w : World) (N b : Nat) (most : Int) (v : Value) (f : Seats → List Row) (e : Ending) (w' : World) : Prop := ∃ lv s', e = .returned (.int .i64 0) ∧ Keeps w' N b most lv (f s') ∧ Turned b v.ownBlock w w' ∧ Hence w v lv ∧ FarR w.heap.size s'
theorem PutOn.ok {w w' : World} {N b : Nat} {most : Int} {v : Value} {f : Seats → List Row} {e : Ending} (h : PutOn w N b most v f e w') : PutOk w N b most v f e w' :=
  let ⟨lv, s', h1, h2, h3, h4, _⟩ := h; ⟨lv, s', h1, h2, h3, h4⟩
set_option maxHeartbeats 3200000 in
theorem put_full (N b : Nat) (most : Int) (lv : Value) (L : List Row) (s : Seats) (l : LsaZ) (w : World) (h : Keeps w N b most lv L) (hH : Held w s l) (hf : Mid l) (hN : Nils s) (hs : sealedB l = true) (ht : thereB L (keyZ l.head) = false) (hfu : most ≤ (L.length : Int)) :
    Calls Try.prog 10 #[.pointer (some ⟨b, 0, none⟩), .agg (lsaA s l)] w fun e w' => e = .returned (.int .i64 8) ∧ Below w.heap.size w w' := by
  obtain ⟨a, c, rfl, hL, hLc, hcm, hanil, hag⟩ := h.lies
  have HB : Hid (Below w.heap.size w (w.alloc (.cells (lsaA s l) 39))) := below_new' _ _
  have HK : Hid (Keeps w N b most (.slice a L.length c) L) := h
  have HX : Hid (Box (w.alloc (.cells (lsaA s l) 39)) w.heap.size s l) := box_new w s l
  have HH : Hid (Held w s l) := hH
  have HMI : Hid (Mid l) := hf
  have HNI : Hid (Nils s) := hN
  have HSE : Hid (sealedB l = true) := hs
  have HTH : Hid (thereB L (keyZ l.head) = false) := ht
  have HFU : Hid (most ≤ (L.length : Int)) := hfu
  have hlen : L.length ≤ 1000000 := h.len
  have hlc : (L.length : Int) ≤ (c : Int) := by omega
  clear hs ht hfu
  clear h hL hH hf hN hLc hcm hanil hag
  go_enter Try.func10, Try.ntmps10
  go_upto_region 3 with fail
  generalize w.alloc (.cells (lsaA s l) 39) = W at *
  obtain ⟨c0, c1, c2, c3, c4, c5, c6, c7, c8, c9, c10, c11⟩ := HX.out
  go_wp2_with fail
  refine (bSealed_any s l _ (HH.out.below HB.out) HMI.out HNI.out).mono ?_
  rintro e w1 ⟨rfl, hb⟩
  rw [HSE.out]
  have HX1 : Hid (Box w1 w.heap.size s l) := HX.out.below hb HX.out.lt
  replace HB : Hid (Below w.heap.size w w1) := below_more HB.out hb HB.out.size
  clear hb HX c0 c1 c2 c3 c4 c5 c6 c7 c8 c9 c10 c11
  obtain ⟨c0, c1, c2, c3, c4, c5, c6, c7, c8, c9, c10, c11⟩ := HX1.out
  go_wp2_with fail
  refine (keyOf_any l.head _).mono ?_
  rintro e w2 ⟨rfl, hb⟩
  have HX2 : Hid (Box w2 w.heap.size s l) := HX1.out.below hb HX1.out.lt
  replace HB : Hid (Below w.heap.size w w2) := below_more HB.out hb HB.out.size
  clear hb HX1 c0 c1 c2 c3 c4 c5 c6 c7 c8 c9 c10 c11
  have CF := find_any N b most _ L (keyZ l.head) w2 (HK.out.below HB.out)
  go_wp2_with fail
  refine CF.mono ?_
  rintro e w3 ⟨rfl, hb⟩
  have HX3 : Hid (Box w3 w.heap.size s l) := HX2.out.below hb HX2.out.lt
  replace HB : Hid (Below w.heap.size w w3) := below_more HB.out hb HB.out.size
  clear hb HX2 CF
  rw [HTH.out]
  go_upto_region 7 with fail
  go_quiet (fail)
  have HX4 : Hid (Box (w3.drewN nq) w.heap.size s l) := HX3.out.below (below_dr (Below.refl _ _) nq) HX3.out.lt
  replace HB : Hid (Below w.heap.size w (w3.drewN nq)) := below_dr HB.out nq
  clear HX3
  generalize w3.drewN nq = w4 at *
  have b0 := (HK.out.below HB.out).obj.cell 0 rfl
  have b1 := (HK.out.below HB.out).obj.cell 1 rfl
  have hfu := HFU.out
  go_upto_region 11 with fail
  go_quiet (fail)
  have HX5 : Hid (Box (w4.drewN nq) w.heap.size s l) := HX4.out.below (below_dr (Below.refl _ _) nq) HX4.out.lt
  replace HB : Hid (Below w.heap.size w (w4.drewN nq)) := below_dr HB.out nq
  clear HX4 b0 b1
  generalize w4.drewN nq = w5 at *
  go_wp2
  go_ret
  exact ⟨rfl, HB.out⟩
set_option maxHeartbeats 3200000 in
theorem put_ins0 (N b : Nat) (most : Int) (lv : Value) (L : List Row) (s : Seats) (l : LsaZ) (w : World) (h : Keeps w N b most lv L) (hH : Held w s l) (hf : Mid l) (hN : Nils s) (hNw : N ≤ w.heap.size) (hs : sealedB l = true) (ht : thereB L (keyZ l.head) = false) (hfu : (L.length : Int) < most) (hfl : L.length + 1 ≤ 1000000) (hins : InsOk L (posZ L (keyZ l.head))) :
    Calls Try.prog 10 #[.pointer (some ⟨b, 0, none⟩), .agg (lsaA s l)] w (PutOn w N b most lv fun s' => insL L (posZ L (keyZ l.head)) (s', l)) := by
  obtain ⟨a, c, rfl, hL, hLc, hcm, hanil, hag⟩ := h.lies
  have HB : Hid (Below w.heap.size w (w.alloc (.cells (lsaA s l) 39))) := below_new' _ _
  have HK : Hid (Keeps w N b most (.slice a L.length c) L) := h
  have HX : Hid (Box (w.alloc (.cells (lsaA s l) 39)) w.heap.size s l) := box_new w s l
  have HH : Hid (Held w s l) := hH
  have HMI : Hid (Mid l) := hf
  have HNI : Hid (Nils s) := hN
  have HSE : Hid (sealedB l = true) := hs
  have HTH : Hid (thereB L (keyZ l.head) = false) := ht
  have HFU : Hid ((L.length : Int) < most) := hfu
  have hlen : L.length ≤ 1000000 := h.len
  have hlc : (L.length : Int) ≤ (c : Int) := by omega
  have HINS : Hid (InsOk L (posZ L (keyZ l.head))) := hins
  have HNw : Hid (N ≤ w.heap.size) := hNw
  have HFL : Hid (L.length + 1 ≤ 1000000) := hfl
  clear hs ht hfu hins hNw hfl
  clear h hL hH hf hN hLc hcm hanil hag
  go_enter Try.func10, Try.ntmps10
  go_upto_region 3 with fail
  generalize w.alloc (.cells (lsaA s l) 39) = W at *
  obtain ⟨c0, c1, c2, c3, c4, c5, c6, c7, c8, c9, c10, c11⟩ := HX.out
  go_wp2_with fail
  refine (bSealed_any s l _ (HH.out.below HB.out) HMI.out HNI.out).mono ?_
  rintro e w1 ⟨rfl, hb⟩
  rw [HSE.out]
  have HX1 : Hid (Box w1 w.heap.size s l) := HX.out.below hb HX.out.lt
  replace HB : Hid (Below w.heap.size w w1) := below_more HB.out hb HB.out.size
  clear hb HX c0 c1 c2 c3 c4 c5 c6 c7 c8 c9 c10 c11
  obtain ⟨c0, c1, c2, c3, c4, c5, c6, c7, c8, c9, c10, c11⟩ := HX1.out
  go_wp2_with fail
  refine (keyOf_any l.head _).mono ?_
  rintro e w2 ⟨rfl, hb⟩
  have HX2 : Hid (Box w2 w.heap.size s l) := HX1.out.below hb HX1.out.lt
  replace HB : Hid (Below w.heap.size w w2) := below_more HB.out hb HB.out.size
  clear hb HX1 c0 c1 c2 c3 c4 c5 c6 c7 c8 c9 c10 c11
  have CF := find_any N b most _ L (keyZ l.head) w2 (HK.out.below HB.out)
  go_wp2_with fail
  refine CF.mono ?_
  rintro e w3 ⟨rfl, hb⟩
  have HX3 : Hid (Box w3 w.heap.size s l) := HX2.out.below hb HX2.out.lt
  replace HB : Hid (Below w.heap.size w w3) := below_more HB.out hb HB.out.size
  clear hb HX2 CF
  rw [HTH.out]
  have hpl := posZ_le L (keyZ l.head)
  have HRI : Hid (∀ s', Rising (insL L (posZ L (keyZ l.head)) (s', l))) := fun s' => rising_ins HK.out.rising (s', l) HTH.out
  obtain ⟨p, hpz⟩ : ∃ p, posZ L (keyZ l.head) = p := ⟨_, rfl⟩
  have HPZ : Hid (posZ L (keyZ l.head) = p) := hpz
  rw [hpz] at HRI hpl HINS
  rw [hpz]
  clear hpz
  go_upto_region 7 with fail
  go_quiet (fail)
  have HX4 : Hid (Box (w3.drewN nq) w.heap.size s l) := HX3.out.below (below_dr (Below.refl _ _) nq) HX3.out.lt
  replace HB : Hid (Below w.heap.size w (w3.drewN nq)) := below_dr HB.out nq
  clear HX3
  generalize w3.drewN nq = w4 at *
  have b0 := (HK.out.below HB.out).obj.cell 0 rfl
  have b1 := (HK.out.below HB.out).obj.cell 1 rfl
  have hfu := HFU.out
  go_upto_region 11 with fail
  go_quiet (fail)
  have HX5 : Hid (Box (w4.drewN nq) w.heap.size s l) := HX4.out.below (below_dr (Below.refl _ _) nq) HX4.out.lt
  replace HB : Hid (Below w.heap.size w (w4.drewN nq)) := below_dr HB.out nq
  clear HX4 b0 b1
  generalize w4.drewN nq = w5 at *
  obtain ⟨c0, c1, c2, c3, c4, c5, c6, c7, c8, c9, c10, c11⟩ := HX5.out
  have b1 := (HK.out.below HB.out).obj.cell 1 rfl
  have HN5 : Hid (N ≤ w5.heap.size) := Nat.le_trans HNw.out HB.out.size
  have CC : Calls _ _ _ _ _ := (clone_any s l w5.drew (HH.out.below HB.out.drew) HMI.out HNI.out).mono (R' := fun e w' => ∃ s', e = .returned (.agg (lsaA s' l)) ∧ Hid (Held w' s' l ∧ Nils s' ∧ Below w5.heap.size w5 w' ∧ Far w5.heap.size s'.la ∧ Far w5.heap.size s'.ra ∧ Far w5.heap.size s'.va)) fun e w' ⟨s', h1, h2, h3, h4, h5, h6, h7⟩ => ⟨s', h1, h2, h3, ((Below.refl _ _).drew).trans h4, h5, h6, h7⟩
  have CI : Hid (∀ (s' : Seats) (X : World), Below w5.heap.size w5 X → Calls Try.prog 35 #[.slice a L.length c, .int .i64 p, .slice (some ⟨X.heap.size, 0, none⟩) 1 1] (X.alloc (.cells (lsaA s' l) 39)) fun e w' => ∃ g cp, e = .returned (.slice (some ⟨g, 0, none⟩) (L.length + 1) cp) ∧ w'.cell? ⟨b, 1, none⟩ = some (.slice a L.length c) ∧ w'.frozen? ⟨b, 1, none⟩ = false ∧ Hid (w'.ownsRow N 39 12 (.slice (some ⟨g, 0, none⟩) (insL L p (s', l)).length cp) (insL L p (s', l)).length (cellsOf rowC (insL L p (s', l))) ∧ Turned b (Value.ownBlock (.slice a L.length c)) X w' ∧ w'.heap[b]? = X.heap[b]? ∧ Hence X (.slice a L.length c) (.slice (some ⟨g, 0, none⟩) (insL L p (s', l)).length cp))) := by
    intro s' X hX
    have hKX := (HK.out.below HB.out).below hX
    have hkp := hKX.below (below_new' X (.cells (lsaA s' l) 39))
    refine (HINS.out N a c X.heap.size (s', l) _ (by have := HN5.out; have := hX.size; simp; omega) hkp.own (by omega) (heap_alloc_new X _) ?_).mono ?_
    · intro x hx e
      have := (World.ownsRow.lt hKX.own x.block (by subst hx; rfl)).2
      omega
    · rintro e w' h
      obtain ⟨g, cp, rfl, ho, hg, hh⟩ := ins_some (M := insL L p (s', l)) h (by intro e; have := insL_len L p (s', l); rw [e] at this; simp at this)
      have hbb : w'.heap[b]? = (X.alloc (.cells (lsaA s' l) 39)).heap[b]? := hg.block b hkp.obj.lt (fun e => hkp.ne e.symm)
      have hb2 : w'.heap[b]? = X.heap[b]? := hbb.trans ((below_new' X _).block b hKX.obj.lt)
      have hv : Var w' b [.int .i64 most, .slice a L.length c] := by
        obtain ⟨t, ho'⟩ := hkp.obj
        exact ⟨t, by rw [hbb]; exact ho'⟩
      refine ⟨g, cp, by rw [insL_len], hv.cell 1 rfl, hv.frozen 1, ho, ?_, hb2, hence_below hh (by simp)⟩
      exact (Turned.of b _ (below_new' X _)).trans (Turned.grown hg)
  clear HINS HX5
  go_upto_region 6 with fail
  go_region_with (first
    | (go_at_call 34; refine CC.mono ?_; rintro e w6 ⟨s', rfl, hcl⟩; have b1' : w6.cell? ⟨b, 1, none⟩ = some (.slice a L.length c) := ((HK.out.below HB.out).below hcl.out.2.2.1).obj.cell 1 rfl; have b1'' : (w6.alloc (.cells (lsaA s' l) 39)).cell? ⟨b, 1, none⟩ = some (.slice a L.length c) := (((HK.out.below HB.out).below hcl.out.2.2.1).below (below_new' w6 _)).obj.cell 1 rfl)
    | (go_at_call 35; refine (CI.out s' w6 hcl.out.2.2.1).mono ?_; rintro e w7 ⟨g, cp, rfl, q1, q2, hin⟩))
  all_goals
    clear q1 q2 CC CI b1 b1' b1''
    go_wp2
    go_ret
    obtain ⟨x1, x2, x3, x4⟩ := hin.out
    rw [insL_len] at x1 x4
    obtain ⟨y1, y2, y3, y4, y5, y6⟩ := hcl.out
    have hK6 := (HK.out.below HB.out).below y3
    have hb5 := (HK.out.below HB.out).obj.lt
    refine ⟨.slice (some ⟨g, 0, none⟩) (L.length + 1) cp, s', rfl, ?_, ?_, ?_, ?_⟩
    · show Keeps _ _ _ _ _ (insL L (posZ L (keyZ l.head)) (s', l))
      rw [HPZ.out]
      refine hK6.put (M := insL L p (s', l)) (by rw [insL_len]; exact x1) x2 x3 x4 ?_ (HRI.out s') (by rw [insL_len]; exact HFL.out)
      intro r hr
      rcases insL_mem hr with rfl | hr
      · refine ⟨y1, y2, HMI.out, HSE.out, off_far y4 y5 y6 hb5, fun g' hg' => off_far y4 y5 y6 ?_⟩
        exact (World.ownsRow.lt (HK.out.below HB.out).own g' hg').2
      · exact hK6.row hr
    · exact ((Turned.of b _ (below_more HB.out y3 HB.out.size)).trans x2).trans (Turned.set b _ w7 ⟨b, 1, none⟩ _ (.inl rfl))
    · exact hence_below x4 (Nat.le_trans HB.out.size y3.size)
    · have := HB.out.size
      exact ⟨y4.mono (by omega), y5.mono (by omega), y6.mono (by omega)⟩
theorem put_ins (N b : Nat) (most : Int) (lv : Value) (L : List Row) (s : Seats) (l : LsaZ) (w : World) (h : Keeps w N b most lv L) (hH : Held w s l) (hf : Mid l) (hN : Nils s) (hNw : N ≤ w.heap.size) (hs : sealedB l = true) (ht : thereB L (keyZ l.head) = false) (hfu : (L.length : Int) < most) (hfl : L.length + 1 ≤ 1000000) (hins : InsOk L (posZ L (keyZ l.head))) :
    Calls Try.prog 10 #[.pointer (some ⟨b, 0, none⟩), .agg (lsaA s l)] w (PutOk w N b most lv fun s' => insL L (posZ L (keyZ l.head)) (s', l)) :=
  (put_ins0 N b most lv L s l w h hH hf hN hNw hs ht hfu hfl hins).mono fun _ _ h => h.ok
end Go.Proofs.Ytmcemhkhgccojaa
