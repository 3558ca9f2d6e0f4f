/- A head's bytes are read as the head; with them an advertisement begins. -/
import Derived.Test.YtoanjhccbmifmaaDoorS5L1
import Derived.Test.YtoanjhccbmifmaaDoorS5T
namespace Go.Proofs.YtoanjhccbmifmaaDoor
open Go.RowKit

theorem from_end (a h : List Int) (n : Nat) (hn : n = a.length) : fromZ (a ++ h) (n : Int) = h := by
  subst hn
  unfold fromZ
  rw [if_neg (by simp; omega)]
  simp
set_option maxHeartbeats 3200000 in
theorem lsaHeads_walk (s : Seats) (l : LsaZ) (a : Option Addr) (cap : Nat) (zs : List Int) (w : World) (hH : Held w s l) (hN : Nils s) (hB : Bts w a zs) (hz : AreBytes zs) (hn : a = none → cap = 0) (hE : Env w) :
    Calls Tryd.prog 8 #[.agg (lsaA s l), .slice a zs.length cap] w fun e w' => e = .returned (.bool true) ∧ Below w.heap.size w w' := by
  have HX : Hid (Box (w.alloc (.cells (lsaA s l) 28)) w.heap.size s l) := box_new w s l
  have HB : Hid (Below w.heap.size w (w.alloc (.cells (lsaA s l) 28))) := below_new' _ _
  have HE : Hid (Env w) := hE
  have HH : Hid (Held w s l) := hH
  have HNI : Hid (Nils s) := hN
  have HZB : Hid (Bts w a zs) := hB
  have HZ : Hid (AreBytes zs) := hz
  have HZN : Hid (a = none → cap = 0) := hn
  clear hE hH hN hB hz hn
  go_enter Tryd.func8, Tryd.ntmps8
  go_upto_region 1 with fail
  generalize w.alloc (.cells (lsaA s l) 28) = W at *
  obtain ⟨c0, c1, c2, c3, c4, c5, c6, c7, c8, c9, c10, c11⟩ := HX.out
  go_wp2_with fail
  refine (great_any s l _).mono ?_
  rintro e w1 ⟨rfl, hb⟩
  replace HX : Hid (Box w1 w.heap.size s l) := HX.out.below hb HX.out.lt
  replace HB : Hid (Below w.heap.size w w1) := below_more HB.out hb HB.out.size
  clear hb c0 c1 c2 c3 c4 c5 c6 c7 c8 c9 c10 c11
  cases hg : greatB l with
  | true =>
    go_wp2_with fail
    refine (awake_any _ (HE.out.below HB.out (Nat.le_refl _))).mono ?_
    rintro e wz ⟨rfl, hb⟩
    replace HB : Hid (Below w.heap.size w wz) := below_more HB.out hb HB.out.size
    clear hb
    go_wp2
    go_ret
    exact ⟨rfl, HB.out⟩
  | false =>
    have HM : Hid (Mid l) := great_mid hg
    obtain ⟨c0, c1, c2, c3, c4, c5, c6, c7, c8, c9, c10, c11⟩ := HX.out
    go_wp2_with fail
    refine (rrightLsa_any s l _ (HH.out.below HB.out) HM.out.fits).mono ?_
    rintro e w2 ⟨rfl, hb⟩
    replace HX : Hid (Box w2 w.heap.size s l) := HX.out.below hb HX.out.lt
    replace HB : Hid (Below w.heap.size w w2) := below_more HB.out hb HB.out.size
    clear hb c0 c1 c2 c3 c4 c5 c6 c7 c8 c9 c10 c11
    cases hr : rightLsaB l with
    | false =>
      go_wp2_with fail
      refine (awake_any _ (HE.out.below HB.out (Nat.le_refl _))).mono ?_
      rintro e wz ⟨rfl, hb⟩
      replace HB : Hid (Below w.heap.size w wz) := below_more HB.out hb HB.out.size
      clear hb
      go_wp2
      go_ret
      exact ⟨rfl, HB.out⟩
    | true =>
      by_cases h100 : 100 < zs.length
      · go_wp2_with fail
        refine (awake_any _ (HE.out.below HB.out (Nat.le_refl _))).mono ?_
        rintro e wz ⟨rfl, hb⟩
        replace HB : Hid (Below w.heap.size w wz) := below_more HB.out hb HB.out.size
        clear hb
        go_wp2
        go_ret
        exact ⟨rfl, HB.out⟩
      obtain ⟨S, hS⟩ : ∃ S, (sealH l).sum = S := ⟨_, rfl⟩
      obtain ⟨N, hN⟩ : ∃ N, (sealH l).len = N := ⟨_, rfl⟩
      have HS : Hid ((sealH l).sum = S) := hS
      have HN : Hid ((sealH l).len = N) := hN
      have HR : Hid (rightLsaB l = true) := hr
      clear hS hN hr hg
      obtain ⟨c0, c1, c2, c3, c4, c5, c6, c7, c8, c9, c10, c11⟩ := HX.out
      go_wp2_with fail
      refine (seal_good s l _ (HH.out.below HB.out) HM.out HNI.out HR.out S N HS.out HN.out).mono ?_
      rintro e w3 ⟨s1, rfl, hh, hn, hb⟩
      replace HB : Hid (Below w.heap.size w w3) := below_more HB.out hb HB.out.size
      have HH1 : Hid (Held w3 s1 l) := hh
      clear hb hh hn HX c0 c1 c2 c3 c4 c5 c6 c7 c8 c9 c10 c11
      have HA : Hid (Var (w3.alloc (.cells #[.int .i64 l.head.age, .int .i64 l.head.kind, .int .i64 l.head.id, .int .i64 l.head.adv, .int .i64 l.head.seq, .int .i64 S, .int .i64 N, .int .i64 l.flags, .slice s1.la l.links.length s1.lc, .int .i64 l.bits, .slice s1.ra l.routers.length s1.rc, .slice s1.va l.verts.length s1.vc] 28)) w3.heap.size [.int .i64 l.head.age, .int .i64 l.head.kind, .int .i64 l.head.id, .int .i64 l.head.adv, .int .i64 l.head.seq, .int .i64 S, .int .i64 N, .int .i64 l.flags, .slice s1.la l.links.length s1.lc, .int .i64 l.bits, .slice s1.ra l.routers.length s1.rc, .slice s1.va l.verts.length s1.vc]) := var_new w3 [.int .i64 l.head.age, .int .i64 l.head.kind, .int .i64 l.head.id, .int .i64 l.head.adv, .int .i64 l.head.seq, .int .i64 S, .int .i64 N, .int .i64 l.flags, .slice s1.la l.links.length s1.lc, .int .i64 l.bits, .slice s1.ra l.routers.length s1.rc, .slice s1.va l.verts.length s1.vc] _
      replace HH1 : Hid (Held (w3.alloc (.cells #[.int .i64 l.head.age, .int .i64 l.head.kind, .int .i64 l.head.id, .int .i64 l.head.adv, .int .i64 l.head.seq, .int .i64 S, .int .i64 N, .int .i64 l.flags, .slice s1.la l.links.length s1.lc, .int .i64 l.bits, .slice s1.ra l.routers.length s1.rc, .slice s1.va l.verts.length s1.vc] 28)) s1 (LsaZ.mk (HeadZ.mk l.head.age l.head.kind l.head.id l.head.adv l.head.seq S N) l.flags l.links l.bits l.routers l.verts)) := ⟨(HH1.out.below (below_new' _ _)).hl, (HH1.out.below (below_new' _ _)).hr, (HH1.out.below (below_new' _ _)).hv⟩
      replace HB : Hid (Below w.heap.size w (w3.alloc (.cells #[.int .i64 l.head.age, .int .i64 l.head.kind, .int .i64 l.head.id, .int .i64 l.head.adv, .int .i64 l.head.seq, .int .i64 S, .int .i64 N, .int .i64 l.flags, .slice s1.la l.links.length s1.lc, .int .i64 l.bits, .slice s1.ra l.routers.length s1.rc, .slice s1.va l.verts.length s1.vc] 28))) := HB.out.alloc HB.out.size _
      go_upto_region 4 with fail
      generalize w3.alloc (.cells #[.int .i64 l.head.age, .int .i64 l.head.kind, .int .i64 l.head.id, .int .i64 l.head.adv, .int .i64 l.head.seq, .int .i64 S, .int .i64 N, .int .i64 l.flags, .slice s1.la l.links.length s1.lc, .int .i64 l.bits, .slice s1.ra l.routers.length s1.rc, .slice s1.va l.verts.length s1.vc] 28) = V4 at *
      generalize w3.heap.size = nS at *
      have HHA : Hid (sealH l = (HeadZ.mk l.head.age l.head.kind l.head.id l.head.adv l.head.seq S N)) := by
        show _ = _
        exact HeadZ.same (sealH_age l) (sealH_kind l) (sealH_id l) (sealH_adv l) (sealH_seq l) HS.out HN.out
      have HSE : Hid (sealedB (LsaZ.mk (HeadZ.mk l.head.age l.head.kind l.head.id l.head.adv l.head.seq S N) l.flags l.links l.bits l.routers l.verts) = true) := by
        show _ = _
        have := sealed_sealed HR.out
        rw [HHA.out] at this; exact this
      have hp := put_sealed s1 (LsaZ.mk (HeadZ.mk l.head.age l.head.kind l.head.id l.head.adv l.head.seq S N) l.flags l.links l.bits l.routers l.verts) V4 (HE.out.below HB.out (Nat.le_refl _)) HH1.out ⟨HM.out.hl, HM.out.hr, HM.out.hv⟩ HSE.out
      have hl20 := lay_min (LsaZ.mk (HeadZ.mk l.head.age l.head.kind l.head.id l.head.adv l.head.seq S N) l.flags l.links l.bits l.routers l.verts)
      have HLH : Hid ((layZ (LsaZ.mk (HeadZ.mk l.head.age l.head.kind l.head.id l.head.adv l.head.seq S N) l.flags l.links l.bits l.routers l.verts)).take 20 = headZ (HeadZ.mk l.head.age l.head.kind l.head.id l.head.adv l.head.seq S N)) := by show _ = _; unfold layZ; exact List.take_left' rfl
      have HLZ : Hid (AreBytes (layZ (LsaZ.mk (HeadZ.mk l.head.age l.head.kind l.head.id l.head.adv l.head.seq S N) l.flags l.links l.bits l.routers l.verts))) := layZ_bd _
      have hlm := lay_fits (l := (LsaZ.mk (HeadZ.mk l.head.age l.head.kind l.head.id l.head.adv l.head.seq S N) l.flags l.links l.bits l.routers l.verts)) ⟨HM.out.hl, HM.out.hr, HM.out.hv⟩
      dsimp only [lsaA] at hp
      generalize layZ (LsaZ.mk (HeadZ.mk l.head.age l.head.kind l.head.id l.head.adv l.head.seq S N) l.flags l.links l.bits l.routers l.verts) = bs at *
      have a0 := HA.out.cell 0 rfl
      have a1 := HA.out.cell 1 rfl
      have a2 := HA.out.cell 2 rfl
      have a3 := HA.out.cell 3 rfl
      have a4 := HA.out.cell 4 rfl
      have a5 := HA.out.cell 5 rfl
      have a6 := HA.out.cell 6 rfl
      have a7 := HA.out.cell 7 rfl
      have a8 := HA.out.cell 8 rfl
      have a9 := HA.out.cell 9 rfl
      have a10 := HA.out.cell 10 rfl
      have a11 := HA.out.cell 11 rfl
      go_wp2_with fail
      refine hp.mono ?_
      rintro e w5 ⟨g, cp, rfl, ho, hb⟩
      replace HA : Hid (Var w5 nS [.int .i64 l.head.age, .int .i64 l.head.kind, .int .i64 l.head.id, .int .i64 l.head.adv, .int .i64 l.head.seq, .int .i64 S, .int .i64 N, .int .i64 l.flags, .slice s1.la l.links.length s1.lc, .int .i64 l.bits, .slice s1.ra l.routers.length s1.rc, .slice s1.va l.verts.length s1.vc]) := HA.out.below hb HA.out.lt
      replace HB : Hid (Below w.heap.size w w5) := below_more HB.out hb HB.out.size
      have HO : Hid (Owns w5 V4.heap.size g cp bs) := ho
      clear hb ho hp a0 a1 a2 a3 a4 a5 a6 a7 a8 a9 a10 a11
      have a0 := HA.out.cell 0 rfl
      have a1 := HA.out.cell 1 rfl
      have a2 := HA.out.cell 2 rfl
      have a3 := HA.out.cell 3 rfl
      have a4 := HA.out.cell 4 rfl
      have a5 := HA.out.cell 5 rfl
      have a6 := HA.out.cell 6 rfl
      have a7 := HA.out.cell 7 rfl
      have a8 := HA.out.cell 8 rfl
      have a9 := HA.out.cell 9 rfl
      have a10 := HA.out.cell 10 rfl
      have a11 := HA.out.cell 11 rfl
      go_wp2_with fail
      refine (putHead_any (HeadZ.mk l.head.age l.head.kind l.head.id l.head.adv l.head.seq S N) _).mono ?_
      rintro e w6 ⟨gh, ch, rfl, ho, hb⟩
      replace HA : Hid (Var w6 nS [.int .i64 l.head.age, .int .i64 l.head.kind, .int .i64 l.head.id, .int .i64 l.head.adv, .int .i64 l.head.seq, .int .i64 S, .int .i64 N, .int .i64 l.flags, .slice s1.la l.links.length s1.lc, .int .i64 l.bits, .slice s1.ra l.routers.length s1.rc, .slice s1.va l.verts.length s1.vc]) := HA.out.below hb HA.out.lt
      replace HB : Hid (Below w.heap.size w w6) := below_more HB.out hb HB.out.size
      replace HO : Hid (Owns w6 V4.heap.size g cp bs) := HO.out.below hb
      have HOH : Hid (Owns w6 w5.heap.size gh ch (headZ (HeadZ.mk l.head.age l.head.kind l.head.id l.head.adv l.head.seq S N))) := ho
      have HLT : Hid (nS < w6.heap.size ∧ g < w6.heap.size ∧ gh < w6.heap.size) := ⟨HA.out.lt, HO.out.lt.2, HOH.out.lt.2⟩
      have H66 : Hid (w.heap.size ≤ w6.heap.size) := HB.out.size
      clear hb ho a0 a1 a2 a3 a4 a5 a6 a7 a8 a9 a10 a11
      go_wp2_with (at_builtin; go_must (refine wp_copy_bytes w6 _ rfl rfl _ _ rfl rfl _ _ _ rfl zs rfl (HZB.out.below HB.out) HZN.out (by omega) ?_))
      intro gc cc w7 ho hb
      replace HA : Hid (Var w7 nS [.int .i64 l.head.age, .int .i64 l.head.kind, .int .i64 l.head.id, .int .i64 l.head.adv, .int .i64 l.head.seq, .int .i64 S, .int .i64 N, .int .i64 l.flags, .slice s1.la l.links.length s1.lc, .int .i64 l.bits, .slice s1.ra l.routers.length s1.rc, .slice s1.va l.verts.length s1.vc]) := HA.out.below hb HA.out.lt
      replace HB : Hid (Below w.heap.size w w7) := below_more HB.out hb HB.out.size
      replace HO : Hid (Owns w7 V4.heap.size g cp bs) := HO.out.below hb
      replace HOH : Hid (Owns w7 w5.heap.size gh ch (headZ (HeadZ.mk l.head.age l.head.kind l.head.id l.head.adv l.head.seq S N))) := HOH.out.below hb
      have HOC : Hid (Owns w7 w6.heap.size gc cc zs) := ho
      have HG6 : Hid (nS < w6.heap.size ∧ g < w6.heap.size ∧ gh < w6.heap.size) := HLT.out
      clear hb ho
      go_wp2_with (at_builtin; go_must (refine wp_append_bytes w7 rfl _ _ rfl w6.heap.size gc cc zs _ rfl rfl HOC.out _ _ _ rfl (headZ (HeadZ.mk l.head.age l.head.kind l.head.id l.head.adv l.head.seq S N)) rfl HOH.out.bts (by simp) (by simp [headZ_length]; omega) HOC.out.more ?_))
      intro g8 c8 w8 ho hg
      have hb6 : Below w6.heap.size w7 w8 := (Below.refl _ _).grown hg HOC.out.more (fun k hk => (World.ownsRow.lt HOC.out k hk).1)
      have hgc : w6.heap.size ≤ gc := HOC.out.lt.1
      replace HA : Hid (Var w8 nS [.int .i64 l.head.age, .int .i64 l.head.kind, .int .i64 l.head.id, .int .i64 l.head.adv, .int .i64 l.head.seq, .int .i64 S, .int .i64 N, .int .i64 l.flags, .slice s1.la l.links.length s1.lc, .int .i64 l.bits, .slice s1.ra l.routers.length s1.rc, .slice s1.va l.verts.length s1.vc]) := HA.out.below hb6 HG6.out.1
      replace HO : Hid (Owns w8 V4.heap.size g cp bs) := HO.out.grown hg (by have := HG6.out.2.1; omega)
      replace HOH : Hid (Owns w8 w5.heap.size gh ch (headZ (HeadZ.mk l.head.age l.head.kind l.head.id l.head.adv l.head.seq S N))) := HOH.out.grown hg (by have := HG6.out.2.2; omega)
      replace HB : Hid (Below w.heap.size w w8) := below_more HB.out hb6 H66.out
      have HS8 : Hid (Slice w8 (some ⟨g8, 0, none⟩) c8 (zs ++ headZ (HeadZ.mk l.head.age l.head.kind l.head.id l.head.adv l.head.seq S N))) := ⟨ho.bts, app_bd HZ.out (headZ_bd _), ho.cap, (fun h => by cases h), by simp [headZ_length]; omega⟩
      have HFR : Hid (GotHead (fromZ (zs ++ headZ (HeadZ.mk l.head.age l.head.kind l.head.id l.head.adv l.head.seq S N)) (zs.length : Int)) = .returned (.tuple #[.agg (headA (HeadZ.mk l.head.age l.head.kind l.head.id l.head.adv l.head.seq S N)), .bool true])) := by
        show _ = _
        rw [from_end _ _ _ rfl, got_yes (by have := got_head (HeadZ.mk l.head.age l.head.kind l.head.id l.head.adv l.head.seq S N) []; rwa [List.append_nil] at this)]
        have hfit : HFit (HeadZ.mk l.head.age l.head.kind l.head.id l.head.adv l.head.seq S N) := by rw [← HHA.out]; exact seal_fit HR.out
        have := read_head (HeadZ.mk l.head.age l.head.kind l.head.id l.head.adv l.head.seq S N) [] hfit
        rw [List.append_nil] at this; rw [this]
      clear ho hg hb6 hgc HOC
      go_wp2_with fail
      refine (getHead_any _ _ _ _ _ _ (by simp [headZ_length]) HS8.out).mono ?_
      rintro e w9 ⟨rfl, hb⟩
      rw [HFR.out]
      replace HA : Hid (Var w9 nS [.int .i64 l.head.age, .int .i64 l.head.kind, .int .i64 l.head.id, .int .i64 l.head.adv, .int .i64 l.head.seq, .int .i64 S, .int .i64 N, .int .i64 l.flags, .slice s1.la l.links.length s1.lc, .int .i64 l.bits, .slice s1.ra l.routers.length s1.rc, .slice s1.va l.verts.length s1.vc]) := HA.out.below hb HA.out.lt
      replace HO : Hid (Owns w9 V4.heap.size g cp bs) := HO.out.below hb
      replace HOH : Hid (Owns w9 w5.heap.size gh ch (headZ (HeadZ.mk l.head.age l.head.kind l.head.id l.head.adv l.head.seq S N))) := HOH.out.below hb
      replace HB : Hid (Below w.heap.size w w9) := below_more HB.out hb HB.out.size
      clear hb HFR HS8 HLT HG6 H66
      have HX9 : Hid (Var (w9.alloc (.cells #[.int .i64 l.head.age, .int .i64 l.head.kind, .int .i64 l.head.id, .int .i64 l.head.adv, .int .i64 l.head.seq, .int .i64 S, .int .i64 N] 23)) w9.heap.size [.int .i64 l.head.age, .int .i64 l.head.kind, .int .i64 l.head.id, .int .i64 l.head.adv, .int .i64 l.head.seq, .int .i64 S, .int .i64 N]) := var_new w9 [.int .i64 l.head.age, .int .i64 l.head.kind, .int .i64 l.head.id, .int .i64 l.head.adv, .int .i64 l.head.seq, .int .i64 S, .int .i64 N] _
      replace HA : Hid (Var (w9.alloc (.cells #[.int .i64 l.head.age, .int .i64 l.head.kind, .int .i64 l.head.id, .int .i64 l.head.adv, .int .i64 l.head.seq, .int .i64 S, .int .i64 N] 23)) nS [.int .i64 l.head.age, .int .i64 l.head.kind, .int .i64 l.head.id, .int .i64 l.head.adv, .int .i64 l.head.seq, .int .i64 S, .int .i64 N, .int .i64 l.flags, .slice s1.la l.links.length s1.lc, .int .i64 l.bits, .slice s1.ra l.routers.length s1.rc, .slice s1.va l.verts.length s1.vc]) := HA.out.alloc _
      replace HO : Hid (Owns (w9.alloc (.cells #[.int .i64 l.head.age, .int .i64 l.head.kind, .int .i64 l.head.id, .int .i64 l.head.adv, .int .i64 l.head.seq, .int .i64 S, .int .i64 N] 23)) V4.heap.size g cp bs) := HO.out.alloc _
      replace HOH : Hid (Owns (w9.alloc (.cells #[.int .i64 l.head.age, .int .i64 l.head.kind, .int .i64 l.head.id, .int .i64 l.head.adv, .int .i64 l.head.seq, .int .i64 S, .int .i64 N] 23)) w5.heap.size gh ch (headZ (HeadZ.mk l.head.age l.head.kind l.head.id l.head.adv l.head.seq S N))) := HOH.out.alloc _
      replace HB : Hid (Below w.heap.size w (w9.alloc (.cells #[.int .i64 l.head.age, .int .i64 l.head.kind, .int .i64 l.head.id, .int .i64 l.head.adv, .int .i64 l.head.seq, .int .i64 S, .int .i64 N] 23))) := HB.out.alloc HB.out.size _
      go_upto_region 9 with fail
      generalize w9.alloc (.cells #[.int .i64 l.head.age, .int .i64 l.head.kind, .int .i64 l.head.id, .int .i64 l.head.adv, .int .i64 l.head.seq, .int .i64 S, .int .i64 N] 23) = V at *
      generalize w9.heap.size = nX at *
      have HBS : Hid (Bts V (some ⟨g, 0, none⟩) (headZ (HeadZ.mk l.head.age l.head.kind l.head.id l.head.adv l.head.seq S N))) := by
        have h := HO.out.bts
        refine .inr ⟨g, 0, rfl, fun i hi => ?_⟩
        have := HO.out.cell i (by rw [headZ_length] at hi; omega)
        rw [Nat.zero_add, this, ← HLH.out]
        rw [headZ_length] at hi
        simp [List.getD_eq_getElem?_getD, hi]
      have cX : ∀ X, Below V.heap.size V X → Sem.run Tryd.prog (convert 31 9 (.slice (some ⟨g, 0, none⟩) 20 cp)) X = .ok (.string (strOf (headZ (HeadZ.mk l.head.age l.head.kind l.head.id l.head.adv l.head.seq S N)))) X := fun X hX => conv_bts X _ _ cp _ rfl (HBS.out.below hX) (headZ_bd _)
      have cY : ∀ X, Below V.heap.size V X → Sem.run Tryd.prog (convert 31 9 (.slice (some ⟨gh, 0, none⟩) 20 ch)) X = .ok (.string (strOf (headZ (HeadZ.mk l.head.age l.head.kind l.head.id l.head.adv l.head.seq S N)))) X := fun X hX => conv_bts X _ _ ch _ rfl (HOH.out.bts.below hX) (headZ_bd _)
      have hcap : 20 ≤ cp := by have := HO.out.cap; omega
      have hcapi : (20 : Int) ≤ (cp : Int) := by omega
      have hgeq : decide ((20 : Int) ≤ (bs.length : Int)) = true := decide_eq_true (by omega)
      have FA : ∀ (X : World), Below V.heap.size V X → Calls Tryd.prog 10 #[] X fun e w' => e = .returned (.bool true) ∧ Hid (Below V.heap.size V w') := by
        intro X hX
        refine (awake_any X (HE.out.below (below_more HB.out hX HB.out.size) (Nat.le_refl _))).mono ?_
        rintro e w' ⟨rfl, hb⟩
        exact ⟨rfl, hX.trans (hb.mono hX.size)⟩
      generalize strOf (headZ (HeadZ.mk l.head.age l.head.kind l.head.id l.head.adv l.head.seq S N)) = str at *
      have keepS : Hid (∀ X, Below V.heap.size V X → X.cell? ⟨nS, 0, none⟩ = some (.int .i64 l.head.age) ∧ X.cell? ⟨nS, 1, none⟩ = some (.int .i64 l.head.kind) ∧ X.cell? ⟨nS, 2, none⟩ = some (.int .i64 l.head.id) ∧ X.cell? ⟨nS, 3, none⟩ = some (.int .i64 l.head.adv) ∧ X.cell? ⟨nS, 4, none⟩ = some (.int .i64 l.head.seq) ∧ X.cell? ⟨nS, 5, none⟩ = some (.int .i64 S) ∧ X.cell? ⟨nS, 6, none⟩ = some (.int .i64 N) ∧ X.cell? ⟨nX, 0, none⟩ = some (.int .i64 l.head.age) ∧ X.cell? ⟨nX, 1, none⟩ = some (.int .i64 l.head.kind) ∧ X.cell? ⟨nX, 2, none⟩ = some (.int .i64 l.head.id) ∧ X.cell? ⟨nX, 3, none⟩ = some (.int .i64 l.head.adv) ∧ X.cell? ⟨nX, 4, none⟩ = some (.int .i64 l.head.seq) ∧ X.cell? ⟨nX, 5, none⟩ = some (.int .i64 S) ∧ X.cell? ⟨nX, 6, none⟩ = some (.int .i64 N) ∧ Sem.run Tryd.prog (convert 31 9 (.slice (some ⟨g, 0, none⟩) 20 cp)) X = .ok (.string str) X ∧ Sem.run Tryd.prog (convert 31 9 (.slice (some ⟨gh, 0, none⟩) 20 ch)) X = .ok (.string str) X ∧ Hid (Below V.heap.size V X)) := fun X hX => by
        have k1 := HA.out.below hX HA.out.lt
        have k2 := HX9.out.below hX HX9.out.lt
        exact ⟨k1.cell 0 rfl, k1.cell 1 rfl, k1.cell 2 rfl, k1.cell 3 rfl, k1.cell 4 rfl, k1.cell 5 rfl, k1.cell 6 rfl, k2.cell 0 rfl, k2.cell 1 rfl, k2.cell 2 rfl, k2.cell 3 rfl, k2.cell 4 rfl, k2.cell 5 rfl, k2.cell 6 rfl, cX X hX, cY X hX, hX⟩
      have hVd : Hid (Below V.heap.size V V.drew) := (Below.refl _ _).drew
      clear cX cY HBS HO HOH HA HX9 HLH HLZ HHA HSE
      go_region_held3 (fun X => X.cell? ⟨nS, 0, none⟩ = some (.int .i64 l.head.age) ∧ X.cell? ⟨nS, 1, none⟩ = some (.int .i64 l.head.kind) ∧ X.cell? ⟨nS, 2, none⟩ = some (.int .i64 l.head.id) ∧ X.cell? ⟨nS, 3, none⟩ = some (.int .i64 l.head.adv) ∧ X.cell? ⟨nS, 4, none⟩ = some (.int .i64 l.head.seq) ∧ X.cell? ⟨nS, 5, none⟩ = some (.int .i64 S) ∧ X.cell? ⟨nS, 6, none⟩ = some (.int .i64 N) ∧ X.cell? ⟨nX, 0, none⟩ = some (.int .i64 l.head.age) ∧ X.cell? ⟨nX, 1, none⟩ = some (.int .i64 l.head.kind) ∧ X.cell? ⟨nX, 2, none⟩ = some (.int .i64 l.head.id) ∧ X.cell? ⟨nX, 3, none⟩ = some (.int .i64 l.head.adv) ∧ X.cell? ⟨nX, 4, none⟩ = some (.int .i64 l.head.seq) ∧ X.cell? ⟨nX, 5, none⟩ = some (.int .i64 S) ∧ X.cell? ⟨nX, 6, none⟩ = some (.int .i64 N) ∧ Sem.run Tryd.prog (convert 31 9 (.slice (some ⟨g, 0, none⟩) 20 cp)) X = .ok (.string str) X ∧ Sem.run Tryd.prog (convert 31 9 (.slice (some ⟨gh, 0, none⟩) 20 ch)) X = .ok (.string str) X ∧ Hid (Below V.heap.size V X)) (with_reducible first | exact keepS.out _ hVd.out | exact keepS.out _ hk.out | assumption)
        (first | (go_at_call 18; refine (num_any _ _).mono ?_; rintro e w' ⟨rfl, rfl⟩) | (go_at_call 10; refine (FA _ (by go_split_ands; exact Hid.out (by assumption))).mono ?_; rintro e w' ⟨rfl, hk⟩))
      rename_i hH
      have HRR : Hid (Below w.heap.size w w') := below_more HB.out hk.out HB.out.size
      clear hH hk keepS FA
      go_wp2
      go_ret
      exact ⟨rfl, HRR.out⟩
end Go.Proofs.YtoanjhccbmifmaaDoor
