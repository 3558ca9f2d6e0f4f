/- Sealed: as the document says it. -/
import Derived.Test.YtmcemhkhgccojaaS5D6
import Derived.Test.YtmcemhkhgccojaaY8D
import Derived.Deep.RegionWith
namespace Go.Proofs.Ytmcemhkhgccojaa
open Go.RowKit
set_option linter.unusedVariables false
theorem fldH (a0 a1 a2 a3 a4 a5 a6 a7 a8 a9 a10 a11 : Value) (w : World) : Sem.run Try.prog (Instr.field 39 (.agg #[a0, a1, a2, a3, a4, a5, a6, a7, a8, a9, a10, a11]) 0) w = .ok (.agg #[a0, a1, a2, a3, a4, a5, a6]) w := by
  simp [Instr.field, go_sem]; rfl
set_option maxHeartbeats 3200000 in
theorem dSealed_not (s : Seats) (l : LsaZ) (w : World) (hH : Held w s l) (hf : Mid l) (hr : rightLsaB l = false) :
    Calls Try.prog 36 #[.agg (lsaA s l)] w fun e w' => e = .returned (.bool false) ∧ Below w.heap.size w w' := by
  have HX : Hid (Box (w.alloc (.cells (lsaA s l) 39)) w.heap.size s l) := box_new w s l
  have HB : Hid (Below w.heap.size w (w.alloc (.cells (lsaA s l) 39))) := below_new' _ _
  have HH : Hid (Held w s l) := hH
  have HF : Hid (Fits l) := hf.fits
  have HR : Hid (rightLsaB l = false) := hr
  clear hH hf hr
  go_enter Try.func36, Try.ntmps36
  go_upto_region 1 with fail
  generalize w.alloc (.cells (lsaA s l) 39) = W at *
  obtain ⟨c0, c1, c2, c3, c4, c5, c6, c7, c8, c9, c10, c11⟩ := HX.out
  have hR := rrightLsa_any s l W.drew (HH.out.below HB.out.drew) HF.out
  rw [HR.out] at hR
  have HBd : Hid (Below w.heap.size w W.drew) := HB.out.drew
  first | go_region_with (first | (go_at_call 42; refine hR.mono ?_; rintro e w' ⟨rfl, hk⟩)) | fail
  all_goals
    have HRR : Hid (Below w.heap.size w w') := below_more HBd.out hk HBd.out.size
    clear hk hR
    go_wp2
    go_ret
    exact ⟨rfl, HRR.out⟩
set_option maxHeartbeats 3200000 in
set_option maxRecDepth 20000 in
theorem dSealed_yes (s : Seats) (l : LsaZ) (w : World) (hH : Held w s l) (hf : Mid l) (hN : Nils s) (hr : rightLsaB l = true) :
    Calls Try.prog 36 #[.agg (lsaA s l)] w fun e w' => e = .returned (.bool (((sealH l).sum == l.head.sum) && ((sealH l).len == l.head.len))) ∧ Below w.heap.size w w' := by
  have HX : Hid (Box (w.alloc (.cells (lsaA s l) 39)) w.heap.size s l) := box_new w s l
  have HB : Hid (Below w.heap.size w (w.alloc (.cells (lsaA s l) 39))) := below_new' _ _
  have HH : Hid (Held w s l) := hH
  have hse : ∀ X, Held X s l → Calls Try.prog 25 #[.agg (lsaA s l)] X fun e w' => ∃ t : Seats, e = .returned (.agg #[.int .i64 l.head.age, .int .i64 l.head.kind, .int .i64 l.head.id, .int .i64 l.head.adv, .int .i64 l.head.seq, .int .i64 (sealH l).sum, .int .i64 (sealH l).len, .int .i64 l.flags, .slice t.la l.links.length t.lc, .int .i64 l.bits, .slice t.ra l.routers.length t.rc, .slice t.va l.verts.length t.vc]) ∧ Below X.heap.size X w' := fun X hX => (dSeal_yes s l X hX hf hN hr).mono fun e w' ⟨t, he, _, _, hb, _⟩ => ⟨t, by
    rw [he]
    have e1 := sealH_age l
    have e2 := sealH_kind l
    have e3 := sealH_id l
    have e4 := sealH_adv l
    have e5 := sealH_seq l
    rw [← e1, ← e2, ← e3, ← e4, ← e5]
    rfl, hb⟩
  have hri := fun X hX => rrightLsa_any s l X hX hf.fits
  rw [hr] at hri
  clear hH hf hN hr
  obtain ⟨B, hB⟩ : ∃ B, (((sealH l).sum == l.head.sum) && ((sealH l).len == l.head.len)) = B := ⟨_, rfl⟩
  have HQ : Hid (_ = B) := hB
  rw [hB]
  clear hB
  generalize (sealH l).sum = SM at *
  generalize (sealH l).len = LN at *
  go_enter Try.func36, Try.ntmps36
  go_upto_region 1 with fail
  generalize w.alloc (.cells (lsaA s l) 39) = W at *
  have FR : ∀ X, Below W.heap.size W X → Calls Try.prog 42 #[.agg #[.int .i64 l.head.age, .int .i64 l.head.kind, .int .i64 l.head.id, .int .i64 l.head.adv, .int .i64 l.head.seq, .int .i64 l.head.sum, .int .i64 l.head.len, .int .i64 l.flags, .slice s.la l.links.length s.lc, .int .i64 l.bits, .slice s.ra l.routers.length s.rc, .slice s.va l.verts.length s.vc]] X fun e w' => e = .returned (.bool true) ∧ Hid (Below W.heap.size W w') := fun X hX => (hri X (HH.out.below (below_more HB.out hX HB.out.size))).mono fun e w' ⟨he, hb⟩ => ⟨he, hX.trans (hb.mono hX.size)⟩
  have FS : ∀ X, Below W.heap.size W X → Calls Try.prog 25 #[.agg #[.int .i64 l.head.age, .int .i64 l.head.kind, .int .i64 l.head.id, .int .i64 l.head.adv, .int .i64 l.head.seq, .int .i64 l.head.sum, .int .i64 l.head.len, .int .i64 l.flags, .slice s.la l.links.length s.lc, .int .i64 l.bits, .slice s.ra l.routers.length s.rc, .slice s.va l.verts.length s.vc]] X fun e w' => ∃ t : Seats, e = .returned (.agg #[.int .i64 l.head.age, .int .i64 l.head.kind, .int .i64 l.head.id, .int .i64 l.head.adv, .int .i64 l.head.seq, .int .i64 SM, .int .i64 LN, .int .i64 l.flags, .slice t.la l.links.length t.lc, .int .i64 l.bits, .slice t.ra l.routers.length t.rc, .slice t.va l.verts.length t.vc]) ∧ Hid (Below W.heap.size W w') := fun X hX => (hse X (HH.out.below (below_more HB.out hX HB.out.size))).mono fun e w' ⟨t, he, hb⟩ => ⟨t, he, hX.trans (hb.mono hX.size)⟩
  have keepS : Hid (∀ X, Below W.heap.size W X → X.cell? ⟨w.heap.size, 0, none⟩ = some (.int .i64 l.head.age) ∧ X.cell? ⟨w.heap.size, 1, none⟩ = some (.int .i64 l.head.kind) ∧ X.cell? ⟨w.heap.size, 2, none⟩ = some (.int .i64 l.head.id) ∧ X.cell? ⟨w.heap.size, 3, none⟩ = some (.int .i64 l.head.adv) ∧ X.cell? ⟨w.heap.size, 4, none⟩ = some (.int .i64 l.head.seq) ∧ X.cell? ⟨w.heap.size, 5, none⟩ = some (.int .i64 l.head.sum) ∧ X.cell? ⟨w.heap.size, 6, none⟩ = some (.int .i64 l.head.len) ∧ X.cell? ⟨w.heap.size, 7, none⟩ = some (.int .i64 l.flags) ∧ X.cell? ⟨w.heap.size, 8, none⟩ = some (.slice s.la l.links.length s.lc) ∧ X.cell? ⟨w.heap.size, 9, none⟩ = some (.int .i64 l.bits) ∧ X.cell? ⟨w.heap.size, 10, none⟩ = some (.slice s.ra l.routers.length s.rc) ∧ X.cell? ⟨w.heap.size, 11, none⟩ = some (.slice s.va l.verts.length s.vc) ∧ Hid (Below W.heap.size W X)) := fun X hX => by
    obtain ⟨c0, c1, c2, c3, c4, c5, c6, c7, c8, c9, c10, c11⟩ := HX.out.below hX HX.out.lt
    exact ⟨c0, c1, c2, c3, c4, c5, c6, c7, c8, c9, c10, c11, hX⟩
  have hVd : Hid (Below W.heap.size W W.drew) := (Below.refl _ _).drew
  have hfl := fldH
  clear hri hse HX
  cases h1 : (SM == l.head.sum) <;> cases h2 : (LN == l.head.len)
  all_goals
    have hq := HQ.out
    rw [h1, h2] at hq
    simp only [Bool.and_true, Bool.and_false] at hq
    subst hq
    go_region_held3 (fun X => X.cell? ⟨w.heap.size, 0, none⟩ = some (.int .i64 l.head.age) ∧ X.cell? ⟨w.heap.size, 1, none⟩ = some (.int .i64 l.head.kind) ∧ X.cell? ⟨w.heap.size, 2, none⟩ = some (.int .i64 l.head.id) ∧ X.cell? ⟨w.heap.size, 3, none⟩ = some (.int .i64 l.head.adv) ∧ X.cell? ⟨w.heap.size, 4, none⟩ = some (.int .i64 l.head.seq) ∧ X.cell? ⟨w.heap.size, 5, none⟩ = some (.int .i64 l.head.sum) ∧ X.cell? ⟨w.heap.size, 6, none⟩ = some (.int .i64 l.head.len) ∧ X.cell? ⟨w.heap.size, 7, none⟩ = some (.int .i64 l.flags) ∧ X.cell? ⟨w.heap.size, 8, none⟩ = some (.slice s.la l.links.length s.lc) ∧ X.cell? ⟨w.heap.size, 9, none⟩ = some (.int .i64 l.bits) ∧ X.cell? ⟨w.heap.size, 10, none⟩ = some (.slice s.ra l.routers.length s.rc) ∧ X.cell? ⟨w.heap.size, 11, none⟩ = some (.slice s.va l.verts.length s.vc) ∧ Hid (Below W.heap.size W X)) (with_reducible first | exact keepS.out _ hVd.out | exact keepS.out _ hk1.out | exact keepS.out _ hk2.out | assumption)
      (first | (go_at_call 42; refine (FR _ (by go_split_ands; exact Hid.out (by assumption))).mono ?_; rintro e v1 ⟨rfl, hk1⟩) | (go_at_call 25; refine (FS _ (by go_split_ands; exact Hid.out (by assumption))).mono ?_; rintro e v2 ⟨t, rfl, hk2⟩))
    rename_i hH
    have HRR : Hid (Below w.heap.size w v2) := below_more HB.out hk2.out HB.out.size
    clear hH hk1 hk2 keepS FR FS
    go_wp2
    go_ret
    exact ⟨rfl, HRR.out⟩
theorem dSealed_any (s : Seats) (l : LsaZ) (w : World) (hH : Held w s l) (hf : Mid l) (hN : Nils s) :
    Calls Try.prog 36 #[.agg (lsaA s l)] w fun e w' => e = .returned (.bool (sealedB l)) ∧ Below w.heap.size w w' := by
  unfold sealedB
  cases hr : rightLsaB l with
  | true => rw [Bool.true_and]; exact dSealed_yes s l w hH hf hN hr
  | false => rw [Bool.false_and]; exact dSealed_not s l w hH hf hr
end Go.Proofs.Ytmcemhkhgccojaa
