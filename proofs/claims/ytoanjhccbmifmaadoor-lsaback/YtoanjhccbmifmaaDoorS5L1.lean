/- Seals do not hang on the Age, nor on what stands there. -/
import Derived.Test.YtoanjhccbmifmaaDoorS5L0
namespace Go.Proofs.YtoanjhccbmifmaaDoor
open Go.RowKit

theorem seal_good (s : Seats) (l : LsaZ) (w : World) (hH : Held w s l) (hf : Mid l) (hN : Nils s) (hr : rightLsaB l = true) (S N : Int) (hS : (sealH l).sum = S) (hL : (sealH l).len = N) :
    Calls Tryd.prog 13 #[.agg (lsaA s l)] w fun e w' => ∃ s', e = .returned (.agg #[.int .i64 l.head.age, .int .i64 l.head.kind, .int .i64 l.head.id, .int .i64 l.head.adv, .int .i64 l.head.seq, .int .i64 S, .int .i64 N, .int .i64 l.flags, .slice s'.la l.links.length s'.lc, .int .i64 l.bits, .slice s'.ra l.routers.length s'.rc, .slice s'.va l.verts.length s'.vc]) ∧ Held w' s' l ∧ Nils s' ∧ Below w.heap.size w w' := by
  refine (seal_any s l w hH hf hN).mono fun e w' h => ?_
  rw [sealL_right hr] at h
  obtain ⟨s', h1, h2, h3, h4⟩ := h
  refine ⟨s', ?_, ⟨h2.hl, h2.hr, h2.hv⟩, h3, h4⟩
  rw [h1, ← hS, ← hL]
  have e1 := sealH_age l
  have e2 := sealH_kind l
  have e3 := sealH_id l
  have e4 := sealH_adv l
  have e5 := sealH_seq l
  rw [← e1, ← e2, ← e3, ← e4, ← e5]
  rfl
set_option maxHeartbeats 3200000 in
theorem lsaSeals_walk (s : Seats) (l : LsaZ) (x1 x2 x3 : Int) (w : World) (hH : Held w s l) (hN : Nils s) (h1 : 0 ≤ x1 ∧ x1 ≤ 65535) (hE : Env w) :
    Calls Tryd.prog 6 #[.agg (lsaA s l), .int .u16 x1, .int .i64 x2, .int .i64 x3] w fun e w' => e = .returned (.bool true) ∧ Below w.heap.size w w' := by
  have HX : Hid (Box (w.alloc (.cells (lsaA s l) 28)) w.heap.size s l) := box_new w s l
  have HB : Hid (Below w.heap.size w (w.alloc (.cells (lsaA s l) 28))) := below_new' _ _
  have HE : Hid (Env w) := hE
  have HH : Hid (Held w s l) := hH
  have HNI : Hid (Nils s) := hN
  clear hE hH hN
  go_enter Tryd.func6, Tryd.ntmps6
  go_upto_region 1 with fail
  generalize w.alloc (.cells (lsaA s l) 28) = W at *
  obtain ⟨c0, c1, c2, c3, c4, c5, c6, c7, c8, c9, c10, c11⟩ := HX.out
  go_wp2_with fail
  refine (great_any s l _).mono ?_
  rintro e w1 ⟨rfl, hb⟩
  replace HX : Hid (Box w1 w.heap.size s l) := HX.out.below hb HX.out.lt
  replace HB : Hid (Below w.heap.size w w1) := below_more HB.out hb HB.out.size
  clear hb c0 c1 c2 c3 c4 c5 c6 c7 c8 c9 c10 c11
  cases hg : greatB l with
  | true =>
    go_wp2_with fail
    refine (awake_any _ (HE.out.below HB.out (Nat.le_refl _))).mono ?_
    rintro e w2 ⟨rfl, hb⟩
    replace HB : Hid (Below w.heap.size w w2) := below_more HB.out hb HB.out.size
    clear hb
    go_wp2
    go_ret
    exact ⟨rfl, HB.out⟩
  | false =>
    have HM : Hid (Mid l) := great_mid hg
    obtain ⟨c0, c1, c2, c3, c4, c5, c6, c7, c8, c9, c10, c11⟩ := HX.out
    go_wp2_with fail
    refine (rrightLsa_any s l _ (HH.out.below HB.out) HM.out.fits).mono ?_
    rintro e w2 ⟨rfl, hb⟩
    replace HX : Hid (Box w2 w.heap.size s l) := HX.out.below hb HX.out.lt
    replace HB : Hid (Below w.heap.size w w2) := below_more HB.out hb HB.out.size
    clear hb c0 c1 c2 c3 c4 c5 c6 c7 c8 c9 c10 c11
    cases hr : rightLsaB l with
    | false =>
      go_wp2_with fail
      refine (awake_any _ (HE.out.below HB.out (Nat.le_refl _))).mono ?_
      rintro e w3 ⟨rfl, hb⟩
      replace HB : Hid (Below w.heap.size w w3) := below_more HB.out hb HB.out.size
      clear hb
      go_wp2
      go_ret
      exact ⟨rfl, HB.out⟩
    | true =>
      obtain ⟨S, hS⟩ : ∃ S, (sealH l).sum = S := ⟨_, rfl⟩
      obtain ⟨N, hN⟩ : ∃ N, (sealH l).len = N := ⟨_, rfl⟩
      have HS : Hid ((sealH l).sum = S) := hS
      have HN : Hid ((sealH l).len = N) := hN
      have HR : Hid (rightLsaB l = true) := hr
      clear hS hN hr hg
      obtain ⟨c0, c1, c2, c3, c4, c5, c6, c7, c8, c9, c10, c11⟩ := HX.out
      go_wp2_with fail
      refine (seal_good s l _ (HH.out.below HB.out) HM.out HNI.out HR.out S N HS.out HN.out).mono ?_
      rintro e w3 ⟨s1, rfl, hh, hn, hb⟩
      replace HX : Hid (Box w3 w.heap.size s l) := HX.out.below hb HX.out.lt
      replace HB : Hid (Below w.heap.size w w3) := below_more HB.out hb HB.out.size
      have HXL : Hid (w.heap.size < w3.heap.size) := HX.out.lt
      have HH1 : Hid (Held w3 s1 l) := hh
      have HN1 : Hid (Nils s1) := hn
      clear hb hh hn c0 c1 c2 c3 c4 c5 c6 c7 c8 c9 c10 c11
      go_upto_region 5 with fail
      have HA : Hid (Var ((w3.alloc (.cells #[.int .i64 l.head.age, .int .i64 l.head.kind, .int .i64 l.head.id, .int .i64 l.head.adv, .int .i64 l.head.seq, .int .i64 S, .int .i64 N, .int .i64 l.flags, .slice s1.la l.links.length s1.lc, .int .i64 l.bits, .slice s1.ra l.routers.length s1.rc, .slice s1.va l.verts.length s1.vc] 28)).alloc (.cells #[.int .i64 l.head.age, .int .i64 l.head.kind, .int .i64 l.head.id, .int .i64 l.head.adv, .int .i64 l.head.seq, .int .i64 S, .int .i64 N, .int .i64 l.flags, .slice s1.la l.links.length s1.lc, .int .i64 l.bits, .slice s1.ra l.routers.length s1.rc, .slice s1.va l.verts.length s1.vc] 28)) w3.heap.size [.int .i64 l.head.age, .int .i64 l.head.kind, .int .i64 l.head.id, .int .i64 l.head.adv, .int .i64 l.head.seq, .int .i64 S, .int .i64 N, .int .i64 l.flags, .slice s1.la l.links.length s1.lc, .int .i64 l.bits, .slice s1.ra l.routers.length s1.rc, .slice s1.va l.verts.length s1.vc]) := (var_new w3 [.int .i64 l.head.age, .int .i64 l.head.kind, .int .i64 l.head.id, .int .i64 l.head.adv, .int .i64 l.head.seq, .int .i64 S, .int .i64 N, .int .i64 l.flags, .slice s1.la l.links.length s1.lc, .int .i64 l.bits, .slice s1.ra l.routers.length s1.rc, .slice s1.va l.verts.length s1.vc] _).alloc _
      have HV : Hid (Var ((w3.alloc (.cells #[.int .i64 l.head.age, .int .i64 l.head.kind, .int .i64 l.head.id, .int .i64 l.head.adv, .int .i64 l.head.seq, .int .i64 S, .int .i64 N, .int .i64 l.flags, .slice s1.la l.links.length s1.lc, .int .i64 l.bits, .slice s1.ra l.routers.length s1.rc, .slice s1.va l.verts.length s1.vc] 28)).alloc (.cells #[.int .i64 l.head.age, .int .i64 l.head.kind, .int .i64 l.head.id, .int .i64 l.head.adv, .int .i64 l.head.seq, .int .i64 S, .int .i64 N, .int .i64 l.flags, .slice s1.la l.links.length s1.lc, .int .i64 l.bits, .slice s1.ra l.routers.length s1.rc, .slice s1.va l.verts.length s1.vc] 28)) (w3.heap.size + 1) [.int .i64 l.head.age, .int .i64 l.head.kind, .int .i64 l.head.id, .int .i64 l.head.adv, .int .i64 l.head.seq, .int .i64 S, .int .i64 N, .int .i64 l.flags, .slice s1.la l.links.length s1.lc, .int .i64 l.bits, .slice s1.ra l.routers.length s1.rc, .slice s1.va l.verts.length s1.vc]) := by
        have := var_new (w3.alloc (.cells #[.int .i64 l.head.age, .int .i64 l.head.kind, .int .i64 l.head.id, .int .i64 l.head.adv, .int .i64 l.head.seq, .int .i64 S, .int .i64 N, .int .i64 l.flags, .slice s1.la l.links.length s1.lc, .int .i64 l.bits, .slice s1.ra l.routers.length s1.rc, .slice s1.va l.verts.length s1.vc] 28)) [.int .i64 l.head.age, .int .i64 l.head.kind, .int .i64 l.head.id, .int .i64 l.head.adv, .int .i64 l.head.seq, .int .i64 S, .int .i64 N, .int .i64 l.flags, .slice s1.la l.links.length s1.lc, .int .i64 l.bits, .slice s1.ra l.routers.length s1.rc, .slice s1.va l.verts.length s1.vc] 28
        rw [size_new] at this; exact this
      have HW : Hid (Below w3.heap.size w3 ((w3.alloc (.cells #[.int .i64 l.head.age, .int .i64 l.head.kind, .int .i64 l.head.id, .int .i64 l.head.adv, .int .i64 l.head.seq, .int .i64 S, .int .i64 N, .int .i64 l.flags, .slice s1.la l.links.length s1.lc, .int .i64 l.bits, .slice s1.ra l.routers.length s1.rc, .slice s1.va l.verts.length s1.vc] 28)).alloc (.cells #[.int .i64 l.head.age, .int .i64 l.head.kind, .int .i64 l.head.id, .int .i64 l.head.adv, .int .i64 l.head.seq, .int .i64 S, .int .i64 N, .int .i64 l.flags, .slice s1.la l.links.length s1.lc, .int .i64 l.bits, .slice s1.ra l.routers.length s1.rc, .slice s1.va l.verts.length s1.vc] 28))) := (below_new' _ _).alloc (by simp) _
      generalize (w3.alloc (.cells #[.int .i64 l.head.age, .int .i64 l.head.kind, .int .i64 l.head.id, .int .i64 l.head.adv, .int .i64 l.head.seq, .int .i64 S, .int .i64 N, .int .i64 l.flags, .slice s1.la l.links.length s1.lc, .int .i64 l.bits, .slice s1.ra l.routers.length s1.rc, .slice s1.va l.verts.length s1.vc] 28)).alloc (.cells #[.int .i64 l.head.age, .int .i64 l.head.kind, .int .i64 l.head.id, .int .i64 l.head.adv, .int .i64 l.head.seq, .int .i64 S, .int .i64 N, .int .i64 l.flags, .slice s1.la l.links.length s1.lc, .int .i64 l.bits, .slice s1.ra l.routers.length s1.rc, .slice s1.va l.verts.length s1.vc] 28) = V at *
      obtain ⟨A, hA⟩ : ∃ A, x1 % 3601 = A := ⟨_, rfl⟩
      have HAA : Hid (0 ≤ A ∧ A ≤ 3600) := by show _ ∧ _; omega
      have r0 := HV.out.cell 0 rfl
      have q0 := HV.out.frozen 0
      replace HA : Hid (Var (V.setCell ⟨w3.heap.size + 1, 0, none⟩ (.int .i64 A)) w3.heap.size [.int .i64 l.head.age, .int .i64 l.head.kind, .int .i64 l.head.id, .int .i64 l.head.adv, .int .i64 l.head.seq, .int .i64 S, .int .i64 N, .int .i64 l.flags, .slice s1.la l.links.length s1.lc, .int .i64 l.bits, .slice s1.ra l.routers.length s1.rc, .slice s1.va l.verts.length s1.vc]) := HA.out.other (by omega) _ _
      replace HV : Hid (Var (V.setCell ⟨w3.heap.size + 1, 0, none⟩ (.int .i64 A)) (w3.heap.size + 1) [.int .i64 A, .int .i64 l.head.kind, .int .i64 l.head.id, .int .i64 l.head.adv, .int .i64 l.head.seq, .int .i64 S, .int .i64 N, .int .i64 l.flags, .slice s1.la l.links.length s1.lc, .int .i64 l.bits, .slice s1.ra l.routers.length s1.rc, .slice s1.va l.verts.length s1.vc]) := HV.out.set 0 _
      replace HW : Hid (Below w3.heap.size w3 (V.setCell ⟨w3.heap.size + 1, 0, none⟩ (.int .i64 A))) := HW.out.setCell (p := ⟨w3.heap.size + 1, 0, none⟩) (Nat.le_succ _) _
      go_upto_region 6 with fail
      generalize V.setCell ⟨w3.heap.size + 1, 0, none⟩ (.int .i64 A) = V1 at *
      clear r0 q0
      have r5 := HV.out.cell 5 rfl
      have q5 := HV.out.frozen 5
      replace HA : Hid (Var (V1.setCell ⟨w3.heap.size + 1, 5, none⟩ (.int .i64 x2)) w3.heap.size [.int .i64 l.head.age, .int .i64 l.head.kind, .int .i64 l.head.id, .int .i64 l.head.adv, .int .i64 l.head.seq, .int .i64 S, .int .i64 N, .int .i64 l.flags, .slice s1.la l.links.length s1.lc, .int .i64 l.bits, .slice s1.ra l.routers.length s1.rc, .slice s1.va l.verts.length s1.vc]) := HA.out.other (by omega) _ _
      replace HV : Hid (Var (V1.setCell ⟨w3.heap.size + 1, 5, none⟩ (.int .i64 x2)) (w3.heap.size + 1) [.int .i64 A, .int .i64 l.head.kind, .int .i64 l.head.id, .int .i64 l.head.adv, .int .i64 l.head.seq, .int .i64 x2, .int .i64 N, .int .i64 l.flags, .slice s1.la l.links.length s1.lc, .int .i64 l.bits, .slice s1.ra l.routers.length s1.rc, .slice s1.va l.verts.length s1.vc]) := HV.out.set 5 _
      replace HW : Hid (Below w3.heap.size w3 (V1.setCell ⟨w3.heap.size + 1, 5, none⟩ (.int .i64 x2))) := HW.out.setCell (p := ⟨w3.heap.size + 1, 5, none⟩) (Nat.le_succ _) _
      go_upto_region 7 with fail
      generalize V1.setCell ⟨w3.heap.size + 1, 5, none⟩ (.int .i64 x2) = V2 at *
      clear r5 q5
      have r6 := HV.out.cell 6 rfl
      have q6 := HV.out.frozen 6
      replace HA : Hid (Var (V2.setCell ⟨w3.heap.size + 1, 6, none⟩ (.int .i64 x3)) w3.heap.size [.int .i64 l.head.age, .int .i64 l.head.kind, .int .i64 l.head.id, .int .i64 l.head.adv, .int .i64 l.head.seq, .int .i64 S, .int .i64 N, .int .i64 l.flags, .slice s1.la l.links.length s1.lc, .int .i64 l.bits, .slice s1.ra l.routers.length s1.rc, .slice s1.va l.verts.length s1.vc]) := HA.out.other (by omega) _ _
      replace HV : Hid (Var (V2.setCell ⟨w3.heap.size + 1, 6, none⟩ (.int .i64 x3)) (w3.heap.size + 1) [.int .i64 A, .int .i64 l.head.kind, .int .i64 l.head.id, .int .i64 l.head.adv, .int .i64 l.head.seq, .int .i64 x2, .int .i64 x3, .int .i64 l.flags, .slice s1.la l.links.length s1.lc, .int .i64 l.bits, .slice s1.ra l.routers.length s1.rc, .slice s1.va l.verts.length s1.vc]) := HV.out.set 6 _
      replace HW : Hid (Below w3.heap.size w3 (V2.setCell ⟨w3.heap.size + 1, 6, none⟩ (.int .i64 x3))) := HW.out.setCell (p := ⟨w3.heap.size + 1, 6, none⟩) (Nat.le_succ _) _
      go_upto_region 8 with fail
      generalize V2.setCell ⟨w3.heap.size + 1, 6, none⟩ (.int .i64 x3) = V3 at *
      clear r6 q6
      have HLB : Hid (Like (HeadZ.mk A l.head.kind l.head.id l.head.adv l.head.seq x2 x3) l.head) := ⟨rfl, rfl, rfl, rfl⟩
      have HLA : Hid (Like (HeadZ.mk l.head.age l.head.kind l.head.id l.head.adv l.head.seq S N) l.head) := ⟨rfl, rfl, rfl, rfl⟩
      have sB := fun W hW => seal_good s1 ⟨⟨A, l.head.kind, l.head.id, l.head.adv, l.head.seq, x2, x3⟩, l.flags, l.links, l.bits, l.routers, l.verts⟩ W hW ⟨HM.out.hl, HM.out.hr, HM.out.hv⟩ HN1.out (right_like l _ HLB.out (by rw [amongB_true]; exact HAA.out) HR.out) S N ((seal_like l _ HLB.out).1.trans HS.out) ((seal_like l _ HLB.out).2.trans HN.out)
      have sA := fun W hW => seal_good s1 ⟨⟨l.head.age, l.head.kind, l.head.id, l.head.adv, l.head.seq, S, N⟩, l.flags, l.links, l.bits, l.routers, l.verts⟩ W hW ⟨HM.out.hl, HM.out.hr, HM.out.hv⟩ HN1.out (right_like l _ HLA.out (right_age HR.out) HR.out) S N ((seal_like l _ HLA.out).1.trans HS.out) ((seal_like l _ HLA.out).2.trans HN.out)
      dsimp only [lsaA] at sB sA
      have HS1 : Hid (∀ W, Below w3.heap.size w3 W → Held W s1 ⟨⟨A, l.head.kind, l.head.id, l.head.adv, l.head.seq, x2, x3⟩, l.flags, l.links, l.bits, l.routers, l.verts⟩) := fun W hW => ⟨(HH1.out.below hW).hl, (HH1.out.below hW).hr, (HH1.out.below hW).hv⟩
      have HS2 : Hid (∀ W, Below w3.heap.size w3 W → Held W s1 ⟨⟨l.head.age, l.head.kind, l.head.id, l.head.adv, l.head.seq, S, N⟩, l.flags, l.links, l.bits, l.routers, l.verts⟩) := fun W hW => ⟨(HH1.out.below hW).hl, (HH1.out.below hW).hr, (HH1.out.below hW).hv⟩
      have b0 := HV.out.cell 0 rfl
      have b1 := HV.out.cell 1 rfl
      have b2 := HV.out.cell 2 rfl
      have b3 := HV.out.cell 3 rfl
      have b4 := HV.out.cell 4 rfl
      have b5 := HV.out.cell 5 rfl
      have b6 := HV.out.cell 6 rfl
      have b7 := HV.out.cell 7 rfl
      have b8 := HV.out.cell 8 rfl
      have b9 := HV.out.cell 9 rfl
      have b10 := HV.out.cell 10 rfl
      have b11 := HV.out.cell 11 rfl
      go_wp2_with fail
      refine (sB _ (HS1.out _ HW.out)).mono ?_
      rintro e w5 ⟨s2, rfl, hh2, _, hb⟩
      replace HA : Hid (Var w5 w3.heap.size [.int .i64 l.head.age, .int .i64 l.head.kind, .int .i64 l.head.id, .int .i64 l.head.adv, .int .i64 l.head.seq, .int .i64 S, .int .i64 N, .int .i64 l.flags, .slice s1.la l.links.length s1.lc, .int .i64 l.bits, .slice s1.ra l.routers.length s1.rc, .slice s1.va l.verts.length s1.vc]) := HA.out.below hb HA.out.lt
      replace HW : Hid (Below w3.heap.size w3 w5) := below_more HW.out hb HW.out.size
      have HH2 : Hid (Held w5 s2 l) := ⟨hh2.hl, hh2.hr, hh2.hv⟩
      clear hb hh2 sB HV b0 b1 b2 b3 b4 b5 b6 b7 b8 b9 b10 b11
      have HC : Hid (Var (w5.alloc (.cells #[.int .i64 A, .int .i64 l.head.kind, .int .i64 l.head.id, .int .i64 l.head.adv, .int .i64 l.head.seq, .int .i64 S, .int .i64 N, .int .i64 l.flags, .slice s2.la l.links.length s2.lc, .int .i64 l.bits, .slice s2.ra l.routers.length s2.rc, .slice s2.va l.verts.length s2.vc] 28)) w5.heap.size [.int .i64 A, .int .i64 l.head.kind, .int .i64 l.head.id, .int .i64 l.head.adv, .int .i64 l.head.seq, .int .i64 S, .int .i64 N, .int .i64 l.flags, .slice s2.la l.links.length s2.lc, .int .i64 l.bits, .slice s2.ra l.routers.length s2.rc, .slice s2.va l.verts.length s2.vc]) := var_new w5 [.int .i64 A, .int .i64 l.head.kind, .int .i64 l.head.id, .int .i64 l.head.adv, .int .i64 l.head.seq, .int .i64 S, .int .i64 N, .int .i64 l.flags, .slice s2.la l.links.length s2.lc, .int .i64 l.bits, .slice s2.ra l.routers.length s2.rc, .slice s2.va l.verts.length s2.vc] _
      have HW5 : Hid (Below w5.heap.size w5 (w5.alloc (.cells #[.int .i64 A, .int .i64 l.head.kind, .int .i64 l.head.id, .int .i64 l.head.adv, .int .i64 l.head.seq, .int .i64 S, .int .i64 N, .int .i64 l.flags, .slice s2.la l.links.length s2.lc, .int .i64 l.bits, .slice s2.ra l.routers.length s2.rc, .slice s2.va l.verts.length s2.vc] 28))) := below_new' _ _
      replace HA : Hid (Var (w5.alloc (.cells #[.int .i64 A, .int .i64 l.head.kind, .int .i64 l.head.id, .int .i64 l.head.adv, .int .i64 l.head.seq, .int .i64 S, .int .i64 N, .int .i64 l.flags, .slice s2.la l.links.length s2.lc, .int .i64 l.bits, .slice s2.ra l.routers.length s2.rc, .slice s2.va l.verts.length s2.vc] 28)) w3.heap.size [.int .i64 l.head.age, .int .i64 l.head.kind, .int .i64 l.head.id, .int .i64 l.head.adv, .int .i64 l.head.seq, .int .i64 S, .int .i64 N, .int .i64 l.flags, .slice s1.la l.links.length s1.lc, .int .i64 l.bits, .slice s1.ra l.routers.length s1.rc, .slice s1.va l.verts.length s1.vc]) := HA.out.alloc _
      go_upto_region 9 with fail
      generalize w5.alloc (.cells #[.int .i64 A, .int .i64 l.head.kind, .int .i64 l.head.id, .int .i64 l.head.adv, .int .i64 l.head.seq, .int .i64 S, .int .i64 N, .int .i64 l.flags, .slice s2.la l.links.length s2.lc, .int .i64 l.bits, .slice s2.ra l.routers.length s2.rc, .slice s2.va l.verts.length s2.vc] 28) = V5 at *
      have a0 := HA.out.cell 0 rfl
      have a1 := HA.out.cell 1 rfl
      have a2 := HA.out.cell 2 rfl
      have a3 := HA.out.cell 3 rfl
      have a4 := HA.out.cell 4 rfl
      have a5 := HA.out.cell 5 rfl
      have a6 := HA.out.cell 6 rfl
      have a7 := HA.out.cell 7 rfl
      have a8 := HA.out.cell 8 rfl
      have a9 := HA.out.cell 9 rfl
      have a10 := HA.out.cell 10 rfl
      have a11 := HA.out.cell 11 rfl
      go_wp2_with fail
      refine (sA _ (HS2.out _ (below_more HW.out HW5.out HW.out.size))).mono ?_
      rintro e w6 ⟨s3, rfl, hh3, _, hb⟩
      replace HA : Hid (Var w6 w3.heap.size [.int .i64 l.head.age, .int .i64 l.head.kind, .int .i64 l.head.id, .int .i64 l.head.adv, .int .i64 l.head.seq, .int .i64 S, .int .i64 N, .int .i64 l.flags, .slice s1.la l.links.length s1.lc, .int .i64 l.bits, .slice s1.ra l.routers.length s1.rc, .slice s1.va l.verts.length s1.vc]) := HA.out.below hb HA.out.lt
      replace HC : Hid (Var w6 w5.heap.size [.int .i64 A, .int .i64 l.head.kind, .int .i64 l.head.id, .int .i64 l.head.adv, .int .i64 l.head.seq, .int .i64 S, .int .i64 N, .int .i64 l.flags, .slice s2.la l.links.length s2.lc, .int .i64 l.bits, .slice s2.ra l.routers.length s2.rc, .slice s2.va l.verts.length s2.vc]) := HC.out.below hb HC.out.lt
      replace HW5 : Hid (Below w5.heap.size w5 w6) := below_more HW5.out hb HW5.out.size
      clear hb hh3 sA a0 a1 a2 a3 a4 a5 a6 a7 a8 a9 a10 a11
      have HD : Hid (Var (w6.alloc (.cells #[.int .i64 l.head.age, .int .i64 l.head.kind, .int .i64 l.head.id, .int .i64 l.head.adv, .int .i64 l.head.seq, .int .i64 S, .int .i64 N, .int .i64 l.flags, .slice s3.la l.links.length s3.lc, .int .i64 l.bits, .slice s3.ra l.routers.length s3.rc, .slice s3.va l.verts.length s3.vc] 28)) w6.heap.size [.int .i64 l.head.age, .int .i64 l.head.kind, .int .i64 l.head.id, .int .i64 l.head.adv, .int .i64 l.head.seq, .int .i64 S, .int .i64 N, .int .i64 l.flags, .slice s3.la l.links.length s3.lc, .int .i64 l.bits, .slice s3.ra l.routers.length s3.rc, .slice s3.va l.verts.length s3.vc]) := var_new w6 [.int .i64 l.head.age, .int .i64 l.head.kind, .int .i64 l.head.id, .int .i64 l.head.adv, .int .i64 l.head.seq, .int .i64 S, .int .i64 N, .int .i64 l.flags, .slice s3.la l.links.length s3.lc, .int .i64 l.bits, .slice s3.ra l.routers.length s3.rc, .slice s3.va l.verts.length s3.vc] _
      have HW6 : Hid (Below w6.heap.size w6 (w6.alloc (.cells #[.int .i64 l.head.age, .int .i64 l.head.kind, .int .i64 l.head.id, .int .i64 l.head.adv, .int .i64 l.head.seq, .int .i64 S, .int .i64 N, .int .i64 l.flags, .slice s3.la l.links.length s3.lc, .int .i64 l.bits, .slice s3.ra l.routers.length s3.rc, .slice s3.va l.verts.length s3.vc] 28))) := below_new' _ _
      replace HA : Hid (Var (w6.alloc (.cells #[.int .i64 l.head.age, .int .i64 l.head.kind, .int .i64 l.head.id, .int .i64 l.head.adv, .int .i64 l.head.seq, .int .i64 S, .int .i64 N, .int .i64 l.flags, .slice s3.la l.links.length s3.lc, .int .i64 l.bits, .slice s3.ra l.routers.length s3.rc, .slice s3.va l.verts.length s3.vc] 28)) w3.heap.size [.int .i64 l.head.age, .int .i64 l.head.kind, .int .i64 l.head.id, .int .i64 l.head.adv, .int .i64 l.head.seq, .int .i64 S, .int .i64 N, .int .i64 l.flags, .slice s1.la l.links.length s1.lc, .int .i64 l.bits, .slice s1.ra l.routers.length s1.rc, .slice s1.va l.verts.length s1.vc]) := HA.out.alloc _
      replace HC : Hid (Var (w6.alloc (.cells #[.int .i64 l.head.age, .int .i64 l.head.kind, .int .i64 l.head.id, .int .i64 l.head.adv, .int .i64 l.head.seq, .int .i64 S, .int .i64 N, .int .i64 l.flags, .slice s3.la l.links.length s3.lc, .int .i64 l.bits, .slice s3.ra l.routers.length s3.rc, .slice s3.va l.verts.length s3.vc] 28)) w5.heap.size [.int .i64 A, .int .i64 l.head.kind, .int .i64 l.head.id, .int .i64 l.head.adv, .int .i64 l.head.seq, .int .i64 S, .int .i64 N, .int .i64 l.flags, .slice s2.la l.links.length s2.lc, .int .i64 l.bits, .slice s2.ra l.routers.length s2.rc, .slice s2.va l.verts.length s2.vc]) := HC.out.alloc _
      go_upto_region 10 with fail
      generalize w6.alloc (.cells #[.int .i64 l.head.age, .int .i64 l.head.kind, .int .i64 l.head.id, .int .i64 l.head.adv, .int .i64 l.head.seq, .int .i64 S, .int .i64 N, .int .i64 l.flags, .slice s3.la l.links.length s3.lc, .int .i64 l.bits, .slice s3.ra l.routers.length s3.rc, .slice s3.va l.verts.length s3.vc] 28) = V6 at *
      have HW56 : Hid (Below w5.heap.size w5 V6) := below_more HW5.out HW6.out HW5.out.size
      have HW36 : Hid (Below w3.heap.size w3 V6) := below_more HW.out HW56.out HW.out.size
      have HX6 : Hid (Box V6 w.heap.size s l) := HX.out.below HW36.out HX.out.lt
      have HBC : Hid (bodyB (LsaZ.mk (HeadZ.mk A l.head.kind l.head.id l.head.adv l.head.seq S N) l.flags l.links l.bits l.routers l.verts) l = true) := by show _ = _; unfold bodyB; simp [eqLinksB_t, eqVertsB_t]
      have HBA : Hid (bodyB (LsaZ.mk (HeadZ.mk l.head.age l.head.kind l.head.id l.head.adv l.head.seq S N) l.flags l.links l.bits l.routers l.verts) l = true) := by show _ = _; unfold bodyB; simp [eqLinksB_t, eqVertsB_t]
      have FL : Hid (Fits l) := HM.out.fits
      have bC := fun W ha hb => body_any s2 s (LsaZ.mk (HeadZ.mk A l.head.kind l.head.id l.head.adv l.head.seq S N) l.flags l.links l.bits l.routers l.verts) l W ha hb ⟨FL.out.hl, FL.out.hr, FL.out.hv⟩ FL.out
      have bA := fun W ha hb => body_any s1 s (LsaZ.mk (HeadZ.mk l.head.age l.head.kind l.head.id l.head.adv l.head.seq S N) l.flags l.links l.bits l.routers l.verts) l W ha hb ⟨FL.out.hl, FL.out.hr, FL.out.hv⟩ FL.out
      rw [HBC.out] at bC
      rw [HBA.out] at bA
      dsimp only [lsaA] at bC bA
      have HQ2 : Hid (∀ W, Below w5.heap.size w5 W → Held W s2 (LsaZ.mk (HeadZ.mk A l.head.kind l.head.id l.head.adv l.head.seq S N) l.flags l.links l.bits l.routers l.verts)) := fun W hW => ⟨(HH2.out.below hW).hl, (HH2.out.below hW).hr, (HH2.out.below hW).hv⟩
      have HBW : Hid (Below w.heap.size w V6) := below_more HB.out HW36.out HB.out.size
      have a0 := HA.out.cell 0 rfl
      have a1 := HA.out.cell 1 rfl
      have a2 := HA.out.cell 2 rfl
      have a3 := HA.out.cell 3 rfl
      have a4 := HA.out.cell 4 rfl
      have a5 := HA.out.cell 5 rfl
      have a6 := HA.out.cell 6 rfl
      have a7 := HA.out.cell 7 rfl
      have a8 := HA.out.cell 8 rfl
      have a9 := HA.out.cell 9 rfl
      have a10 := HA.out.cell 10 rfl
      have a11 := HA.out.cell 11 rfl
      have e0 := HC.out.cell 0 rfl
      have e1 := HC.out.cell 1 rfl
      have e2 := HC.out.cell 2 rfl
      have e3 := HC.out.cell 3 rfl
      have e4 := HC.out.cell 4 rfl
      have e5 := HC.out.cell 5 rfl
      have e6 := HC.out.cell 6 rfl
      have e7 := HC.out.cell 7 rfl
      have e8 := HC.out.cell 8 rfl
      have e9 := HC.out.cell 9 rfl
      have e10 := HC.out.cell 10 rfl
      have e11 := HC.out.cell 11 rfl
      have d0 := HD.out.cell 0 rfl
      have d1 := HD.out.cell 1 rfl
      have d2 := HD.out.cell 2 rfl
      have d3 := HD.out.cell 3 rfl
      have d4 := HD.out.cell 4 rfl
      have d5 := HD.out.cell 5 rfl
      have d6 := HD.out.cell 6 rfl
      have d7 := HD.out.cell 7 rfl
      have d8 := HD.out.cell 8 rfl
      have d9 := HD.out.cell 9 rfl
      have d10 := HD.out.cell 10 rfl
      have d11 := HD.out.cell 11 rfl
      obtain ⟨c0, c1, c2, c3, c4, c5, c6, c7, c8, c9, c10, c11⟩ := HX6.out
      go_wp2_with fail
      refine (bC _ (HQ2.out _ HW56.out) (HH.out.below HBW.out)).mono ?_
      rintro e w7 ⟨rfl, hb⟩
      replace HA : Hid (Var w7 w3.heap.size [.int .i64 l.head.age, .int .i64 l.head.kind, .int .i64 l.head.id, .int .i64 l.head.adv, .int .i64 l.head.seq, .int .i64 S, .int .i64 N, .int .i64 l.flags, .slice s1.la l.links.length s1.lc, .int .i64 l.bits, .slice s1.ra l.routers.length s1.rc, .slice s1.va l.verts.length s1.vc]) := HA.out.below hb HA.out.lt
      replace HX6 : Hid (Box w7 w.heap.size s l) := HX6.out.below hb HX6.out.lt
      replace HBW : Hid (Below w.heap.size w w7) := below_more HBW.out hb HBW.out.size
      replace HW36 : Hid (Below w3.heap.size w3 w7) := below_more HW36.out hb HW36.out.size
      clear hb bC a0 a1 a2 a3 a4 a5 a6 a7 a8 a9 a10 a11 e0 e1 e2 e3 e4 e5 e6 e7 e8 e9 e10 e11 d0 d1 d2 d3 d4 d5 d6 d7 d8 d9 d10 d11 c0 c1 c2 c3 c4 c5 c6 c7 c8 c9 c10 c11
      have a0 := HA.out.cell 0 rfl
      have a1 := HA.out.cell 1 rfl
      have a2 := HA.out.cell 2 rfl
      have a3 := HA.out.cell 3 rfl
      have a4 := HA.out.cell 4 rfl
      have a5 := HA.out.cell 5 rfl
      have a6 := HA.out.cell 6 rfl
      have a7 := HA.out.cell 7 rfl
      have a8 := HA.out.cell 8 rfl
      have a9 := HA.out.cell 9 rfl
      have a10 := HA.out.cell 10 rfl
      have a11 := HA.out.cell 11 rfl
      obtain ⟨c0, c1, c2, c3, c4, c5, c6, c7, c8, c9, c10, c11⟩ := HX6.out
      go_wp2_with fail
      refine (bA _ (HS2.out _ HW36.out) (HH.out.below HBW.out)).mono ?_
      rintro e w8 ⟨rfl, hb⟩
      replace HBW : Hid (Below w.heap.size w w8) := below_more HBW.out hb HBW.out.size
      clear hb bA a0 a1 a2 a3 a4 a5 a6 a7 a8 a9 a10 a11 c0 c1 c2 c3 c4 c5 c6 c7 c8 c9 c10 c11
      go_wp2_with fail
      refine (awake_any _ (HE.out.below HBW.out (Nat.le_refl _))).mono ?_
      rintro e w9 ⟨rfl, hb⟩
      replace HBW : Hid (Below w.heap.size w w9) := below_more HBW.out hb HBW.out.size
      clear hb
      go_wp2
      go_ret
      exact ⟨rfl, HBW.out⟩
end Go.Proofs.YtoanjhccbmifmaaDoor
