/- Whatever is put, got, dropped, copied, a base answers, and has, what the document says: the walk. -/
import Derived.Test.YtmcemhkhgccojaaS8R2
import Derived.Test.YtmcemhkhgccojaaS8R4
import Derived.Deep.CutRange
namespace Go.Proofs.Ytmcemhkhgccojaa
open Go.RowKit
set_option linter.unusedVariables false

theorem dheads_at (a1 a2 : Option Addr) (c1 c2 : Nat) (D : List HeadZ) (n : Nat) (w : World) (hn : D.length = n) (h1 : Lies w a1 (cellsOf hdC D)) (h2 : Lies w a2 (cellsOf hdC D)) (hl : D.length ≤ 1000000) :
    Calls Try.prog 22 #[.slice a1 n c1, .slice a2 n c2] w fun e w' => e = .returned (.bool true) ∧ Below w.heap.size w w' := by
  subst hn
  exact dheadsEq_any a1 a2 c1 c2 D w h1 h2 hl
theorem put_lit (l : List Value) (ds : List Deferred) (d : Nat) (v : Value) : Act.put ⟨⟨l⟩, ds⟩ (some d) v = ⟨⟨l.set d v⟩, ds⟩ := by simp [Act.put]
theorem lsa_at (z : ActZ) (w : World) (AL : Value) (hAL : Value.agg (actC z).toArray = AL) (hH : Held w z.row.1 z.row.2) (hN : Nils z.row.1) (hf : Mid z.row.2) :
    Calls Try.prog 11 #[AL] w (LsaEnd w z) := hAL ▸ lsa_any z w hH hN hf
set_option maxHeartbeats 40000000 in
set_option maxRecDepth 20000 in
theorem baseRuns_walk (most : Int) (a : Option Addr) (cap : Nat) (L0 : List ActZ) (w : World) (hL : Lies w a (cellsOf actC L0)) (hE : ∀ z ∈ L0, Held w z.row.1 z.row.2 ∧ Nils z.row.1) (hM : L0.length ≤ maxLen) (hx : -9223372036854775808 ≤ most ∧ most ≤ 9223372036854775807) :
    Calls Try.prog 3 #[.int .i64 most, .slice a L0.length cap] w fun e w' => e = .returned (.bool true) ∧ Below w.heap.size w w' := by
  have HLI : Hid (Lies w a (cellsOf actC L0)) := hL
  have HEA : Hid (∀ z ∈ L0, Held w z.row.1 z.row.2 ∧ Nils z.row.1) := hE
  have CH := heavy_any a cap L0 w hL (by unfold maxLen at hM; omega)
  obtain ⟨hx1, hx2⟩ := hx
  clear hL hE hM
  go_enter Try.func3, Try.ntmps3
  cases hhv : heavyB L0 with
  | true =>
    rw [hhv] at CH
    go_wp2_with fail
    refine CH.mono ?_
    rintro e w1 ⟨rfl, hb⟩
    have HB1 : Hid (Below w.heap.size w w1) := hb
    clear hb CH
    go_wp2_with fail
    refine (awake_any _).mono ?_
    rintro e w2 ⟨rfl, hb⟩
    have HB2 : Hid (Below w.heap.size w w2) := below_more HB1.out hb HB1.out.size
    clear hb
    go_wp2
    go_ret
    exact ⟨rfl, HB2.out⟩
  | false =>
    rw [hhv] at CH
    obtain ⟨hl80, hgr⟩ := heavy_no hhv
    have HGR : Hid (∀ z ∈ L0, greatB z.row.2 = false) := hgr
    clear hgr
    go_wp2_with fail
    refine CH.mono ?_
    rintro e V ⟨rfl, hb⟩
    have HB1 : Hid (Below w.heap.size w V) := hb
    clear hb CH hhv
    by_cases hmo : most < 1 ∨ 512 < most
    · have CN1 := new_bad most V hmo
      have CN2 := dnew_bad most V hmo
      clear hmo
      go_wp2_with fail
      refine CN1.mono ?_
      rintro e w2 ⟨rfl, rfl⟩
      go_wp2_with fail
      refine CN2.mono ?_
      rintro e w3 ⟨rfl, rfl⟩
      go_wp2_with fail
      refine (num_any _ _).mono ?_
      rintro e w4 ⟨rfl, rfl⟩
      go_wp2_with fail
      refine (awake_any _).mono ?_
      rintro e w5 ⟨rfl, hb⟩
      have HB2 : Hid (Below w.heap.size w w5) := below_more HB1.out hb HB1.out.size
      clear hb CN1 CN2
      go_wp2
      go_ret
      exact ⟨rfl, HB2.out⟩
    · have hm1 : 1 ≤ most := by omega
      have hm2 : most ≤ 512 := by omega
      clear hmo
      go_wp2_with fail
      refine (new_any most V hm1 hm2).mono ?_
      rintro e w1 ⟨rfl, rfl⟩
      have hk1 := new_keeps V most
      have hs1 : (V.alloc (.cells #[.int .i64 most, .slice none 0 0] 70)).heap.size = V.heap.size + 1 := size_new _ _
      have hb1 := below_new' V (.cells #[.int .i64 most, .slice none 0 0] 70)
      go_wp2_with fail
      refine (dnew_any most _ hm1 hm2).mono ?_
      rintro e w2 ⟨rfl, rfl⟩
      have HT : Hid (∃ Z, Two8 V ((V.alloc (.cells #[.int .i64 most, .slice none 0 0] 70)).alloc (.cells #[.int .i64 most, .slice none 0 0] 55)) V.heap.size V.heap.size (V.heap.size + 1) most Z Z) := by
        have h2 := new_keeps' (V.alloc (.cells #[.int .i64 most, .slice none 0 0] 70)) most 55
        have ha := apart_new (m2 := most) 55 hk1
        rw [hs1] at h2 ha
        exact ⟨[], _, [], _, [], hk1.below (below_new' _ _), h2.lower8 (by omega), rfl, rfl, ha, below_more hb1 (below_new' _ _) hb1.size, by simp; omega⟩
      rw [hs1]
      clear hk1 hs1 hb1
      generalize (V.alloc (.cells #[.int .i64 most, .slice none 0 0] 70)).alloc (.cells #[.int .i64 most, .slice none 0 0] 55) = U at *
      go_wp2_with fail
      refine (num_any _ _).mono ?_
      rintro e w1 ⟨rfl, rfl⟩
      go_wp2_with fail
      go_loopw [5, 9] (fun u t wr => ∃ (i b1 : Nat) (Z : List LsaZ), i ≤ L0.length ∧ t = .int .i64 (i : Int) ∧ u = .pointer (some ⟨b1, 0, none⟩) ∧ Hid (Two8 V wr V.heap.size b1 (V.heap.size + 1) most Z Z)) (fun _ t _ => L0.length - (intOf t).toNat)
      case atStart =>
        obtain ⟨Z, h⟩ := HT.out
        exact ⟨0, _, Z, by omega, rfl, rfl, h⟩
      case round =>
        clear HT
        obtain ⟨i, b1, Z, hi, rfl, rfl, HT1⟩ := hrel
        by_cases hlt : i < L0.length
        · have hiI : (i : Int) < (L0.length : Int) := by omega
          have HVW : Hid (Below V.heap.size V wr ∧ V.heap.size ≤ wr.heap.size) := by
            obtain ⟨lv1, L1, lv2, L2, h1, h2, e1, e2, ha, hw, hn⟩ := HT1.out
            exact ⟨hw, hn⟩
          have HWW : Hid (Below w.heap.size w wr) := HB1.out.trans (HVW.out.1.mono HB1.out.size)
          obtain ⟨g0, o, rfl, hat⟩ := acts_at HLI.out i hlt
          have hE := HEA.out _ (List.getElem_mem hlt)
          have hG := HGR.out _ (List.getElem_mem hlt)
          obtain ⟨z, hz⟩ : ∃ z, L0[i] = z := ⟨_, rfl⟩
          rw [hz] at hat hE hG
          have HZ : Hid (Held w z.row.1 z.row.2 ∧ Nils z.row.1 ∧ Mid z.row.2) := ⟨hE.1, hE.2, great_mid hG⟩
          obtain ⟨c0, c1, c2, c3, c4, c5, c6, c7, c8, c9, c10, c11, c12, c13, c14, c15, c16⟩ := hat.below HWW.out hat.lt
          have HAV : Hid (Var (wr.alloc (.cells #[.int .i64 z.act, .int .i64 z.row.2.head.age, .int .i64 z.row.2.head.kind, .int .i64 z.row.2.head.id, .int .i64 z.row.2.head.adv, .int .i64 z.row.2.head.seq, .int .i64 z.row.2.head.sum, .int .i64 z.row.2.head.len, .int .i64 z.row.2.flags, .slice z.row.1.la z.row.2.links.length z.row.1.lc, .int .i64 z.row.2.bits, .slice z.row.1.ra z.row.2.routers.length z.row.1.rc, .slice z.row.1.va z.row.2.verts.length z.row.1.vc, .bool z.sealIt, .int .i64 z.key.kind, .int .i64 z.key.id, .int .i64 z.key.adv] 43)) wr.heap.size (actC z)) := var_new wr (actC z) _
          have HT0 : Hid (Two8 V (wr.alloc (.cells #[.int .i64 z.act, .int .i64 z.row.2.head.age, .int .i64 z.row.2.head.kind, .int .i64 z.row.2.head.id, .int .i64 z.row.2.head.adv, .int .i64 z.row.2.head.seq, .int .i64 z.row.2.head.sum, .int .i64 z.row.2.head.len, .int .i64 z.row.2.flags, .slice z.row.1.la z.row.2.links.length z.row.1.lc, .int .i64 z.row.2.bits, .slice z.row.1.ra z.row.2.routers.length z.row.1.rc, .slice z.row.1.va z.row.2.verts.length z.row.1.vc, .bool z.sealIt, .int .i64 z.key.kind, .int .i64 z.key.id, .int .i64 z.key.adv] 43)) V.heap.size b1 (V.heap.size + 1) most Z Z) := HT1.out.below (below_new' _ _)
          have HB0 : Hid (Below wr.heap.size wr (wr.alloc (.cells #[.int .i64 z.act, .int .i64 z.row.2.head.age, .int .i64 z.row.2.head.kind, .int .i64 z.row.2.head.id, .int .i64 z.row.2.head.adv, .int .i64 z.row.2.head.seq, .int .i64 z.row.2.head.sum, .int .i64 z.row.2.head.len, .int .i64 z.row.2.flags, .slice z.row.1.la z.row.2.links.length z.row.1.lc, .int .i64 z.row.2.bits, .slice z.row.1.ra z.row.2.routers.length z.row.1.rc, .slice z.row.1.va z.row.2.verts.length z.row.1.vc, .bool z.sealIt, .int .i64 z.key.kind, .int .i64 z.key.id, .int .i64 z.key.adv] 43))) := below_new' _ _
          clear hat hE hG hz
          go_upto_region 13 with fail
          clear c0 c1 c2 c3 c4 c5 c6 c7 c8 c9 c10 c11 c12 c13 c14 c15 c16
          have HNB : Hid (wr.heap.size = wr.heap.size) := rfl
          obtain ⟨nb, hnb⟩ : ∃ nb, wr.heap.size = nb := ⟨_, rfl⟩
          replace HNB : Hid (nb = wr.heap.size) := hnb.symm
          rw [hnb] at HAV ⊢
          generalize (wr.alloc (.cells #[.int .i64 z.act, .int .i64 z.row.2.head.age, .int .i64 z.row.2.head.kind, .int .i64 z.row.2.head.id, .int .i64 z.row.2.head.adv, .int .i64 z.row.2.head.seq, .int .i64 z.row.2.head.sum, .int .i64 z.row.2.head.len, .int .i64 z.row.2.flags, .slice z.row.1.la z.row.2.links.length z.row.1.lc, .int .i64 z.row.2.bits, .slice z.row.1.ra z.row.2.routers.length z.row.1.rc, .slice z.row.1.va z.row.2.verts.length z.row.1.vc, .bool z.sealIt, .int .i64 z.key.kind, .int .i64 z.key.id, .int .i64 z.key.adv] 43)) = V0 at *
          clear hnb
          have k0 := HAV.out.cell 0 rfl
          go_upto_region 14 with fail
          clear k0
          · have HCUT : True := trivial
            have HAT : Hid (∃ k : Int, z.act = k) := ⟨_, rfl⟩
            by_cases h0 : z.act = 0
            · rw [h0]
              clear h0
              as_aux_lemma =>
                obtain ⟨lv1, L1, lv2, L2, h1, h2, e1, e2, ha, hw, hn⟩ := HT1.out
                have HS1 : Hid (Keeps wr V.heap.size b1 most lv1 L1 ∧ (L1.map fun r => r.2) = Z) := ⟨h1, e1⟩
                have HS2 : Hid (Keeps wr V.heap.size (V.heap.size + 1) most lv2 L2 ∧ (L2.map fun r => r.2) = Z) := ⟨h2, e2⟩
                have HS3 : Hid (Apart b1 lv1 L1 (V.heap.size + 1) lv2 L2) := ha
                have HS4 : Hid (Below V.heap.size V wr ∧ V.heap.size ≤ wr.heap.size) := ⟨hw, hn⟩
                have HNE : Hid (b1 ≠ nb ∧ ∀ k, lv1.ownBlock = some k → k ≠ nb) := ⟨by have := h1.obj.lt; have := HNB.out; omega, fun k hk => by have := h1.own_lt k hk; have := HNB.out; omega⟩
                have HNX : Hid (V.heap.size + 1 ≠ nb ∧ ∀ k, lv2.ownBlock = some k → k ≠ nb) := ⟨by have := h2.obj.lt; have := HNB.out; omega, fun k hk => by have := h2.own_lt k hk; have := HNB.out; omega⟩
                clear h1 h2 e1 e2 ha hw hn
                obtain ⟨AL, hAL⟩ : ∃ AL, Value.agg (actC z).toArray = AL := ⟨_, rfl⟩
                have HAL : Hid (Value.agg (actC z).toArray = AL) := hAL
                clear hAL
                obtain ⟨q, hq⟩ : ∃ q, actL z = q := ⟨_, rfl⟩
                have HQ : Hid (actL z = q) := hq
                have HQM : Hid (Mid q) := by
                  rw [← hq]
                  have hm := HZ.out.2.2
                  unfold actL
                  split
                  · unfold sealL; split <;> exact ⟨hm.hl, hm.hr, hm.hv⟩
                  · exact hm
                have HHL : Hid (∀ X, Below w.heap.size w X → Held X z.row.1 z.row.2) := fun X hX => HZ.out.1.below hX
                have CL1 : Calls _ _ _ _ _ := (lsa_at z V0.drew AL HAL.out (HHL.out _ (HWW.out.trans (HB0.out.drew.mono HWW.out.size))) HZ.out.2.1 HZ.out.2.2).mono (R' := fun e w' => ∃ s1, e = .returned (.agg (lsaA s1 q)) ∧ Hid (Held w' s1 q ∧ Nils s1 ∧ Below wr.heap.size wr w') ∧ Var w' nb (actC z)) fun e w' h => by
                  obtain ⟨s1, h1, h2, h3, h4, -⟩ := h
                  rw [HQ.out] at h1 h2
                  exact ⟨s1, h1, ⟨h2, h3, below_more HB0.out.drew h4 HB0.out.drew.size⟩, (HAV.out.below (Below.refl _ _).drew HAV.out.lt).below h4 (HAV.out.below (Below.refl _ _).drew HAV.out.lt).lt⟩
                have CP1 : Hid (∀ s1 v1, (Held v1 s1 q ∧ Nils s1 ∧ Below wr.heap.size wr v1) → Var v1 nb (actC z) → Calls Try.prog 10 #[.pointer (some ⟨b1, 0, none⟩), .agg (lsaA s1 q)] v1 fun e w' => e = .returned (.int .i64 (dbE most Z q)) ∧ Hid (∃ lv' L', Keeps w' V.heap.size b1 most lv' L' ∧ (L'.map fun r => r.2) = dbZ most Z q ∧ Keeps w' V.heap.size (V.heap.size + 1) most lv2 L2 ∧ Apart b1 lv' L' (V.heap.size + 1) lv2 L2 ∧ Below V.heap.size V w' ∧ V.heap.size ≤ w'.heap.size) ∧ Var w' nb (actC z)) := by
                  intro s1 v1 ⟨g1, g2, g3⟩ hv
                  have hwd : Below V.heap.size V v1 := below_more HS4.out.1 g3 HS4.out.2
                  have hnd : V.heap.size ≤ v1.heap.size := Nat.le_trans HS4.out.2 g3.size
                  refine (put_step V.heap.size b1 most hm2 lv1 L1 s1 q v1 (HS1.out.1.below g3) g1 HQM.out g2 hnd).mono ?_
                  rintro e w' ⟨rfl, lv', L', k1, k2, k3, k4⟩
                  rw [HS1.out.2] at k2 ⊢
                  obtain ⟨m1, m2⟩ := HS3.out.turn (HS1.out.1.below g3) (HS2.out.1.below g3) k3 k4
                  exact ⟨rfl, ⟨lv', L', k1, k2, m1, m2, (HS1.out.1.below g3).btw hwd hnd k3, Nat.le_trans hnd k3.size⟩, hv.turned k3 HNE.out.1 HNE.out.2⟩
                have CL2 : Hid (∀ v2, (∃ lv' L', Keeps v2 V.heap.size b1 most lv' L' ∧ (L'.map fun r => r.2) = dbZ most Z q ∧ Keeps v2 V.heap.size (V.heap.size + 1) most lv2 L2 ∧ Apart b1 lv' L' (V.heap.size + 1) lv2 L2 ∧ Below V.heap.size V v2 ∧ V.heap.size ≤ v2.heap.size) → Var v2 nb (actC z) → Calls Try.prog 11 #[AL] v2 fun e w' => ∃ s2, e = .returned (.agg (lsaA s2 q)) ∧ Hid (Held w' s2 q ∧ Nils s2 ∧ Below v2.heap.size v2 w' ∧ ∀ k, V.heap.size ≤ k → k < v2.heap.size → Off k (s2, q)) ∧ Var w' nb (actC z)) := by
                  intro v2 ht hv
                  have hb : Below w.heap.size w v2 := by
                    obtain ⟨-, -, -, -, -, -, hw, hn⟩ := ht
                    exact HB1.out.trans (hw.mono HB1.out.size)
                  refine (lsa_at z v2 AL HAL.out (HHL.out _ hb) HZ.out.2.1 HZ.out.2.2).mono ?_
                  rintro e w' ⟨s2, h1, h2, h3, h4, h5⟩
                  rw [HQ.out] at h1 h2 h5
                  exact ⟨s2, h1, ⟨h2, h3, h4, fun k hk1 hk2 => h5 k hk2 (off_old HZ.out.1 (Nat.le_trans HB1.out.size hk1))⟩, hv.below h4 hv.lt⟩
                have CP2 : Hid (∀ v2 v3 s2, (∃ lv' L', Keeps v2 V.heap.size b1 most lv' L' ∧ (L'.map fun r => r.2) = dbZ most Z q ∧ Keeps v2 V.heap.size (V.heap.size + 1) most lv2 L2 ∧ Apart b1 lv' L' (V.heap.size + 1) lv2 L2 ∧ Below V.heap.size V v2 ∧ V.heap.size ≤ v2.heap.size) → (Held v3 s2 q ∧ Nils s2 ∧ Below v2.heap.size v2 v3 ∧ ∀ k, V.heap.size ≤ k → k < v2.heap.size → Off k (s2, q)) → Var v3 nb (actC z) → Calls Try.prog 12 #[.pointer (some ⟨V.heap.size + 1, 0, none⟩), .agg (lsaA s2 q)] v3 fun e w' => e = .returned (.int .i64 (dbE most Z q)) ∧ Hid (Two8 V w' V.heap.size b1 (V.heap.size + 1) most (dbZ most Z q) (dbZ most Z q)) ∧ Var w' nb (actC z)) := by
                  intro v2 v3 s2 ⟨m1, M1, k1, e1, k2, ha, hw, hn⟩ ⟨g1, g2, g3, g4⟩ hv
                  have hnd : V.heap.size ≤ v3.heap.size := Nat.le_trans hn g3.size
                  refine (dput_step V.heap.size (V.heap.size + 1) most hm2 lv2 L2 s2 q v3 (k2.below g3) g1 HQM.out g2 hnd (g4 _ (by omega) k2.obj.lt) (fun k hk => g4 k (k2.own_lo k hk) (k2.own_lt k hk))).mono ?_
                  rintro e w' ⟨rfl, lv9, L9, n1, n2, n3, n4⟩
                  rw [HS2.out.2] at n2 ⊢
                  exact ⟨rfl, Two8.two (k1.below g3) (k2.below g3) ha (below_more hw g3 hn) hnd n1 e1 n2 n3 n4, hv.turned n3 HNX.out.1 HNX.out.2⟩
                generalize hEE : dbE most Z q = E at CP1 CP2
                generalize dbZ most Z q = Z' at CP1 CL2 CP2
                clear hEE hq
                clear HT0 HT1
                go_upto_region 17 with fail
                refine wp_region_held_drew (S := (fun X => Var X nb (actC z))) (by kernel_rfl) ?_ (fun hHeld => ?_)
                · exact HAV.out.below (Below.refl _ _).drew HAV.out.lt
                refine wpAnyH_take (i := 0) (oi := ?_) (v := ?_) ?_ (by kernel_rfl) (by kernel_rfl) (by kernel_rfl) ?_ (Or.inl ⟨?_, ?_⟩) hHeld ?_
                rotate_left 2
                · simp only [List.getElem?_toArray, List.getElem?_cons_zero]; with_reducible rfl
                · exact fun _ _ _ h => h
                · rfl
                · intro wS hSw; (try dsimp only at hSw); go_simp <;> with_reducible rfl
                simp only [put_lit, List.set]
                refine wpAnyH_take (i := 1) (oi := ?_) (v := AL) ?_ (by kernel_rfl) (by kernel_rfl) (by kernel_rfl) ?_ (Or.inl ⟨?_, ?_⟩) hHeld ?_
                rotate_left
                · simp only [List.getElem?_toArray, List.getElem?_cons_zero, List.getElem?_cons_succ]; with_reducible rfl
                · exact fun _ _ _ h => h
                · rfl
                · intro wS hSw; exact load_actV HAL.out rfl rfl wS hSw
                simp only [put_lit, List.set]
                refine wpAnyH_take (i := 5) (oi := ?_) (v := ?_) ?_ (by kernel_rfl) (by kernel_rfl) (by kernel_rfl) ?_ (Or.inl ⟨?_, ?_⟩) hHeld ?_
                rotate_left 2
                · simp only [List.getElem?_toArray, List.getElem?_cons_zero, List.getElem?_cons_succ]; with_reducible rfl
                · exact fun _ _ _ h => h
                · rfl
                · intro wS hSw; (try dsimp only at hSw); go_simp <;> with_reducible rfl
                simp only [put_lit, List.set]
                refine wpAnyH_take (i := 6) (oi := ?_) (v := AL) ?_ (by kernel_rfl) (by kernel_rfl) (by kernel_rfl) ?_ (Or.inl ⟨?_, ?_⟩) hHeld ?_
                rotate_left
                · simp only [List.getElem?_toArray, List.getElem?_cons_zero, List.getElem?_cons_succ]; with_reducible rfl
                · exact fun _ _ _ h => h
                · rfl
                · intro wS hSw; exact load_actV HAL.out rfl rfl wS hSw
                simp only [put_lit, List.set]
                refine wpAnyH_ready (rs := [2]) (by kernel_rfl) (by simp) ?_
                refine AllReadyH.cons rfl (fun K hK => ?_) AllReadyH.nil
                go_simp
                go_at_call 11
                refine CL1.mono ?_
                rintro e v1 ⟨s1, rfl, hl1, hv1⟩
                go_wp2_with fail
                refine hK.out _ _ ?_ (fun hHeld2 => ?_)
                · exact hv1
                clear hK K hHeld
                have hHeld := hHeld2
                clear hHeld2
                (try simp only [put_lit, List.set])
                refine wpAnyH_ready (rs := [3]) (by kernel_rfl) (by simp) ?_
                refine AllReadyH.cons rfl (fun K hK => ?_) AllReadyH.nil
                go_simp
                go_at_call 10
                refine (CP1.out s1 _ hl1.out hv1).mono ?_
                rintro e v2 ⟨rfl, hp1, hv2⟩
                go_wp2_with fail
                refine hK.out _ _ ?_ (fun hHeld2 => ?_)
                · exact hv2
                clear hK K hHeld
                have hHeld := hHeld2
                clear hHeld2
                (try simp only [put_lit, List.set])
                refine wpAnyH_ready (rs := [4]) (by kernel_rfl) (by simp) ?_
                refine AllReadyH.cons rfl (fun K hK => ?_) AllReadyH.nil
                go_simp
                go_at_call 9
                refine (num_any _ _).mono ?_
                rintro e v9 ⟨rfl, rfl⟩
                go_wp2_with fail
                refine hK.out _ _ ?_ (fun hHeld2 => ?_)
                · exact hv2
                clear hK K hHeld
                have hHeld := hHeld2
                clear hHeld2
                (try simp only [put_lit, List.set])
                refine wpAnyH_ready (rs := [7]) (by kernel_rfl) (by simp) ?_
                refine AllReadyH.cons rfl (fun K hK => ?_) AllReadyH.nil
                go_simp
                go_at_call 11
                refine (CL2.out _ hp1.out hv2).mono ?_
                rintro e v3 ⟨s2, rfl, hl2, hv3⟩
                go_wp2_with fail
                refine hK.out _ _ ?_ (fun hHeld2 => ?_)
                · exact hv3
                clear hK K hHeld
                have hHeld := hHeld2
                clear hHeld2
                (try simp only [put_lit, List.set])
                refine wpAnyH_ready (rs := [8]) (by kernel_rfl) (by simp) ?_
                refine AllReadyH.cons rfl (fun K hK => ?_) AllReadyH.nil
                go_simp
                go_at_call 12
                refine (CP2.out _ _ s2 hp1.out hl2.out hv3).mono ?_
                rintro e v4 ⟨rfl, hp2, hv4⟩
                go_wp2_with fail
                refine hK.out _ _ ?_ (fun hHeld2 => ?_)
                · exact hv4
                clear hK K hHeld
                have hHeld := hHeld2
                clear hHeld2
                (try simp only [put_lit, List.set])
                refine wpAnyH_take (i := 9) (oi := ?_) (v := ?_) ?_ (by kernel_rfl) (by kernel_rfl) (by kernel_rfl) ?_ (Or.inl ⟨?_, ?_⟩) hHeld ?_
                rotate_left 2
                · simp only [List.getElem?_toArray, List.getElem?_cons_zero, List.getElem?_cons_succ]; with_reducible rfl
                · exact fun _ _ _ h => h
                · rfl
                · intro wS hSw; (try dsimp only at hSw); go_simp <;> with_reducible rfl
                simp only [put_lit, List.set]
                refine wpAnyH_done (by kernel_rfl) ?_ _
                have HT : Hid (Two8 V v4 V.heap.size b1 (V.heap.size + 1) most Z' Z') := hp2.out
                clear hHeld CL1 CP1 CL2 CP2 hl1 hv1 hp1 hv2 hl2 hv3 hp2 hv4 HS1 HS2 HS3 HQ HQM HHL
                obtain ⟨Z, rfl⟩ : ∃ Z, Z = Z' := ⟨_, rfl⟩
                as_aux_lemma =>
                  obtain ⟨lv1, L1, lv2, L2, h1, h2, e1, e2, -, -, -⟩ := HT.out
                  obtain ⟨a2, c2, hlv2, -, -, -, -, -⟩ := h2.lies
                  have hll : L2.length = L1.length := by
                    have := congrArg List.length (e1.trans e2.symm)
                    rw [List.length_map, List.length_map] at this; exact this.symm
                  rw [hll] at hlv2
                  have b1c := h2.obj.cell 1 rfl
                  rw [hlv2] at b1c
                  have CLN := len_any V.heap.size b1 most lv1 L1
                  have hlen1 : L1.length ≤ 1000000 := h1.len
                  have HK1 : Hid (Keeps v4 V.heap.size b1 most lv1 L1) := h1
                  clear h1 h2 e1 e2 hlv2 hll
                  go_upto_region 29 with fail
                  go_quiet ((go_at_call 19; exact Calls.quiet_of_same (CLN _ (HK1.out.below (below_dr (Below.refl _ _) _)))))
                  have HT2 : Hid (Two8 V (v4.drewN nq) V.heap.size b1 (V.heap.size + 1) most Z Z) := HT.out.below (below_dr (Below.refl _ _) nq)
                  clear b1c CLN HK1 HT
                  go_wp2
                  go_roundw
                  case rel => exact ⟨i + 1, b1, Z, by omega, by go_num, rfl, HT2⟩
                  case measure => simp [intOf]; omega
            by_cases h1 : z.act = 1
            · rw [h1]
              clear h1 h0
              as_aux_lemma =>
                obtain ⟨lv1, L1, lv2, L2, h1, h2, e1, e2, ha, hw, hn⟩ := HT1.out
                have HS1 : Hid (Keeps wr V.heap.size b1 most lv1 L1 ∧ (L1.map fun r => r.2) = Z) := ⟨h1, e1⟩
                have HS2 : Hid (Keeps wr V.heap.size (V.heap.size + 1) most lv2 L2 ∧ (L2.map fun r => r.2) = Z) := ⟨h2, e2⟩
                have HS3 : Hid (Apart b1 lv1 L1 (V.heap.size + 1) lv2 L2) := ha
                have HS4 : Hid (Below V.heap.size V wr ∧ V.heap.size ≤ wr.heap.size) := ⟨hw, hn⟩
                have HNE : Hid (b1 ≠ nb ∧ ∀ k, lv1.ownBlock = some k → k ≠ nb) := ⟨by have := h1.obj.lt; have := HNB.out; omega, fun k hk => by have := h1.own_lt k hk; have := HNB.out; omega⟩
                have HNX : Hid (V.heap.size + 1 ≠ nb ∧ ∀ k, lv2.ownBlock = some k → k ≠ nb) := ⟨by have := h2.obj.lt; have := HNB.out; omega, fun k hk => by have := h2.own_lt k hk; have := HNB.out; omega⟩
                clear h1 h2 e1 e2 ha hw hn
                obtain ⟨AL, hAL⟩ : ∃ AL, Value.agg (actC z).toArray = AL := ⟨_, rfl⟩
                have HAL : Hid (Value.agg (actC z).toArray = AL) := hAL
                clear hAL
                obtain ⟨q, hq⟩ : ∃ q, actL z = q := ⟨_, rfl⟩
                have HQ : Hid (actL z = q) := hq
                have HQM : Hid (Mid q) := by
                  rw [← hq]
                  have hm := HZ.out.2.2
                  unfold actL
                  split
                  · unfold sealL; split <;> exact ⟨hm.hl, hm.hr, hm.hv⟩
                  · exact hm
                have HHL : Hid (∀ X, Below w.heap.size w X → Held X z.row.1 z.row.2) := fun X hX => HZ.out.1.below hX
                have CL1 : Calls _ _ _ _ _ := (lsa_at z V0.drew AL HAL.out (HHL.out _ (HWW.out.trans (HB0.out.drew.mono HWW.out.size))) HZ.out.2.1 HZ.out.2.2).mono (R' := fun e w' => ∃ s1, e = .returned (.agg (lsaA s1 q)) ∧ Hid (Held w' s1 q ∧ Nils s1 ∧ Below wr.heap.size wr w') ∧ Var w' nb (actC z)) fun e w' h => by
                  obtain ⟨s1, h1, h2, h3, h4, -⟩ := h
                  rw [HQ.out] at h1 h2
                  exact ⟨s1, h1, ⟨h2, h3, below_more HB0.out.drew h4 HB0.out.drew.size⟩, (HAV.out.below (Below.refl _ _).drew HAV.out.lt).below h4 (HAV.out.below (Below.refl _ _).drew HAV.out.lt).lt⟩
                have CP1 : Hid (∀ s1 v1, (Held v1 s1 q ∧ Nils s1 ∧ Below wr.heap.size wr v1) → Var v1 nb (actC z) → Calls Try.prog 10 #[.pointer (some ⟨b1, 0, none⟩), .agg (lsaA s1 q)] v1 fun e w' => e = .returned (.int .i64 (dbE most Z q)) ∧ Hid (∃ lv' L', Keeps w' V.heap.size b1 most lv' L' ∧ (L'.map fun r => r.2) = dbZ most Z q ∧ Keeps w' V.heap.size (V.heap.size + 1) most lv2 L2 ∧ Apart b1 lv' L' (V.heap.size + 1) lv2 L2 ∧ Below V.heap.size V w' ∧ V.heap.size ≤ w'.heap.size) ∧ Var w' nb (actC z)) := by
                  intro s1 v1 ⟨g1, g2, g3⟩ hv
                  have hwd : Below V.heap.size V v1 := below_more HS4.out.1 g3 HS4.out.2
                  have hnd : V.heap.size ≤ v1.heap.size := Nat.le_trans HS4.out.2 g3.size
                  refine (put_step V.heap.size b1 most hm2 lv1 L1 s1 q v1 (HS1.out.1.below g3) g1 HQM.out g2 hnd).mono ?_
                  rintro e w' ⟨rfl, lv', L', k1, k2, k3, k4⟩
                  rw [HS1.out.2] at k2 ⊢
                  obtain ⟨m1, m2⟩ := HS3.out.turn (HS1.out.1.below g3) (HS2.out.1.below g3) k3 k4
                  exact ⟨rfl, ⟨lv', L', k1, k2, m1, m2, (HS1.out.1.below g3).btw hwd hnd k3, Nat.le_trans hnd k3.size⟩, hv.turned k3 HNE.out.1 HNE.out.2⟩
                have CL2 : Hid (∀ v2, (∃ lv' L', Keeps v2 V.heap.size b1 most lv' L' ∧ (L'.map fun r => r.2) = dbZ most Z q ∧ Keeps v2 V.heap.size (V.heap.size + 1) most lv2 L2 ∧ Apart b1 lv' L' (V.heap.size + 1) lv2 L2 ∧ Below V.heap.size V v2 ∧ V.heap.size ≤ v2.heap.size) → Var v2 nb (actC z) → Calls Try.prog 11 #[AL] v2 fun e w' => ∃ s2, e = .returned (.agg (lsaA s2 q)) ∧ Hid (Held w' s2 q ∧ Nils s2 ∧ Below v2.heap.size v2 w' ∧ ∀ k, V.heap.size ≤ k → k < v2.heap.size → Off k (s2, q)) ∧ Var w' nb (actC z)) := by
                  intro v2 ht hv
                  have hb : Below w.heap.size w v2 := by
                    obtain ⟨-, -, -, -, -, -, hw, hn⟩ := ht
                    exact HB1.out.trans (hw.mono HB1.out.size)
                  refine (lsa_at z v2 AL HAL.out (HHL.out _ hb) HZ.out.2.1 HZ.out.2.2).mono ?_
                  rintro e w' ⟨s2, h1, h2, h3, h4, h5⟩
                  rw [HQ.out] at h1 h2 h5
                  exact ⟨s2, h1, ⟨h2, h3, h4, fun k hk1 hk2 => h5 k hk2 (off_old HZ.out.1 (Nat.le_trans HB1.out.size hk1))⟩, hv.below h4 hv.lt⟩
                have CP2 : Hid (∀ v2 v3 s2, (∃ lv' L', Keeps v2 V.heap.size b1 most lv' L' ∧ (L'.map fun r => r.2) = dbZ most Z q ∧ Keeps v2 V.heap.size (V.heap.size + 1) most lv2 L2 ∧ Apart b1 lv' L' (V.heap.size + 1) lv2 L2 ∧ Below V.heap.size V v2 ∧ V.heap.size ≤ v2.heap.size) → (Held v3 s2 q ∧ Nils s2 ∧ Below v2.heap.size v2 v3 ∧ ∀ k, V.heap.size ≤ k → k < v2.heap.size → Off k (s2, q)) → Var v3 nb (actC z) → Calls Try.prog 12 #[.pointer (some ⟨V.heap.size + 1, 0, none⟩), .agg (lsaA s2 q)] v3 fun e w' => e = .returned (.int .i64 (dbE most Z q)) ∧ Hid (Two8 V w' V.heap.size b1 (V.heap.size + 1) most (dbZ most Z q) (dbZ most Z q)) ∧ Var w' nb (actC z)) := by
                  intro v2 v3 s2 ⟨m1, M1, k1, e1, k2, ha, hw, hn⟩ ⟨g1, g2, g3, g4⟩ hv
                  have hnd : V.heap.size ≤ v3.heap.size := Nat.le_trans hn g3.size
                  refine (dput_step V.heap.size (V.heap.size + 1) most hm2 lv2 L2 s2 q v3 (k2.below g3) g1 HQM.out g2 hnd (g4 _ (by omega) k2.obj.lt) (fun k hk => g4 k (k2.own_lo k hk) (k2.own_lt k hk))).mono ?_
                  rintro e w' ⟨rfl, lv9, L9, n1, n2, n3, n4⟩
                  rw [HS2.out.2] at n2 ⊢
                  exact ⟨rfl, Two8.two (k1.below g3) (k2.below g3) ha (below_more hw g3 hn) hnd n1 e1 n2 n3 n4, hv.turned n3 HNX.out.1 HNX.out.2⟩
                generalize hEE : dbE most Z q = E at CP1 CP2
                generalize dbZ most Z q = Z' at CP1 CL2 CP2
                clear hEE hq
                clear HT0 HT1
                go_upto_region 17 with fail
                refine wp_region_held_drew (S := (fun X => Var X nb (actC z))) (by kernel_rfl) ?_ (fun hHeld => ?_)
                · exact HAV.out.below (Below.refl _ _).drew HAV.out.lt
                refine wpAnyH_take (i := 0) (oi := ?_) (v := ?_) ?_ (by kernel_rfl) (by kernel_rfl) (by kernel_rfl) ?_ (Or.inl ⟨?_, ?_⟩) hHeld ?_
                rotate_left 2
                · simp only [List.getElem?_toArray, List.getElem?_cons_zero]; with_reducible rfl
                · exact fun _ _ _ h => h
                · rfl
                · intro wS hSw; (try dsimp only at hSw); go_simp <;> with_reducible rfl
                simp only [put_lit, List.set]
                refine wpAnyH_take (i := 1) (oi := ?_) (v := AL) ?_ (by kernel_rfl) (by kernel_rfl) (by kernel_rfl) ?_ (Or.inl ⟨?_, ?_⟩) hHeld ?_
                rotate_left
                · simp only [List.getElem?_toArray, List.getElem?_cons_zero, List.getElem?_cons_succ]; with_reducible rfl
                · exact fun _ _ _ h => h
                · rfl
                · intro wS hSw; exact load_actV HAL.out rfl rfl wS hSw
                simp only [put_lit, List.set]
                refine wpAnyH_take (i := 5) (oi := ?_) (v := ?_) ?_ (by kernel_rfl) (by kernel_rfl) (by kernel_rfl) ?_ (Or.inl ⟨?_, ?_⟩) hHeld ?_
                rotate_left 2
                · simp only [List.getElem?_toArray, List.getElem?_cons_zero, List.getElem?_cons_succ]; with_reducible rfl
                · exact fun _ _ _ h => h
                · rfl
                · intro wS hSw; (try dsimp only at hSw); go_simp <;> with_reducible rfl
                simp only [put_lit, List.set]
                refine wpAnyH_take (i := 6) (oi := ?_) (v := AL) ?_ (by kernel_rfl) (by kernel_rfl) (by kernel_rfl) ?_ (Or.inl ⟨?_, ?_⟩) hHeld ?_
                rotate_left
                · simp only [List.getElem?_toArray, List.getElem?_cons_zero, List.getElem?_cons_succ]; with_reducible rfl
                · exact fun _ _ _ h => h
                · rfl
                · intro wS hSw; exact load_actV HAL.out rfl rfl wS hSw
                simp only [put_lit, List.set]
                refine wpAnyH_ready (rs := [2]) (by kernel_rfl) (by simp) ?_
                refine AllReadyH.cons rfl (fun K hK => ?_) AllReadyH.nil
                go_simp
                go_at_call 11
                refine CL1.mono ?_
                rintro e v1 ⟨s1, rfl, hl1, hv1⟩
                go_wp2_with fail
                refine hK.out _ _ ?_ (fun hHeld2 => ?_)
                · exact hv1
                clear hK K hHeld
                have hHeld := hHeld2
                clear hHeld2
                (try simp only [put_lit, List.set])
                refine wpAnyH_ready (rs := [3]) (by kernel_rfl) (by simp) ?_
                refine AllReadyH.cons rfl (fun K hK => ?_) AllReadyH.nil
                go_simp
                go_at_call 10
                refine (CP1.out s1 _ hl1.out hv1).mono ?_
                rintro e v2 ⟨rfl, hp1, hv2⟩
                go_wp2_with fail
                refine hK.out _ _ ?_ (fun hHeld2 => ?_)
                · exact hv2
                clear hK K hHeld
                have hHeld := hHeld2
                clear hHeld2
                (try simp only [put_lit, List.set])
                refine wpAnyH_ready (rs := [4]) (by kernel_rfl) (by simp) ?_
                refine AllReadyH.cons rfl (fun K hK => ?_) AllReadyH.nil
                go_simp
                go_at_call 9
                refine (num_any _ _).mono ?_
                rintro e v9 ⟨rfl, rfl⟩
                go_wp2_with fail
                refine hK.out _ _ ?_ (fun hHeld2 => ?_)
                · exact hv2
                clear hK K hHeld
                have hHeld := hHeld2
                clear hHeld2
                (try simp only [put_lit, List.set])
                refine wpAnyH_ready (rs := [7]) (by kernel_rfl) (by simp) ?_
                refine AllReadyH.cons rfl (fun K hK => ?_) AllReadyH.nil
                go_simp
                go_at_call 11
                refine (CL2.out _ hp1.out hv2).mono ?_
                rintro e v3 ⟨s2, rfl, hl2, hv3⟩
                go_wp2_with fail
                refine hK.out _ _ ?_ (fun hHeld2 => ?_)
                · exact hv3
                clear hK K hHeld
                have hHeld := hHeld2
                clear hHeld2
                (try simp only [put_lit, List.set])
                refine wpAnyH_ready (rs := [8]) (by kernel_rfl) (by simp) ?_
                refine AllReadyH.cons rfl (fun K hK => ?_) AllReadyH.nil
                go_simp
                go_at_call 12
                refine (CP2.out _ _ s2 hp1.out hl2.out hv3).mono ?_
                rintro e v4 ⟨rfl, hp2, hv4⟩
                go_wp2_with fail
                refine hK.out _ _ ?_ (fun hHeld2 => ?_)
                · exact hv4
                clear hK K hHeld
                have hHeld := hHeld2
                clear hHeld2
                (try simp only [put_lit, List.set])
                refine wpAnyH_take (i := 9) (oi := ?_) (v := ?_) ?_ (by kernel_rfl) (by kernel_rfl) (by kernel_rfl) ?_ (Or.inl ⟨?_, ?_⟩) hHeld ?_
                rotate_left 2
                · simp only [List.getElem?_toArray, List.getElem?_cons_zero, List.getElem?_cons_succ]; with_reducible rfl
                · exact fun _ _ _ h => h
                · rfl
                · intro wS hSw; (try dsimp only at hSw); go_simp <;> with_reducible rfl
                simp only [put_lit, List.set]
                refine wpAnyH_done (by kernel_rfl) ?_ _
                have HT : Hid (Two8 V v4 V.heap.size b1 (V.heap.size + 1) most Z' Z') := hp2.out
                clear hHeld CL1 CP1 CL2 CP2 hl1 hv1 hp1 hv2 hl2 hv3 hp2 hv4 HS1 HS2 HS3 HQ HQM HHL
                obtain ⟨Z, rfl⟩ : ∃ Z, Z = Z' := ⟨_, rfl⟩
                as_aux_lemma =>
                  obtain ⟨lv1, L1, lv2, L2, h1, h2, e1, e2, -, -, -⟩ := HT.out
                  obtain ⟨a2, c2, hlv2, -, -, -, -, -⟩ := h2.lies
                  have hll : L2.length = L1.length := by
                    have := congrArg List.length (e1.trans e2.symm)
                    rw [List.length_map, List.length_map] at this; exact this.symm
                  rw [hll] at hlv2
                  have b1c := h2.obj.cell 1 rfl
                  rw [hlv2] at b1c
                  have CLN := len_any V.heap.size b1 most lv1 L1
                  have hlen1 : L1.length ≤ 1000000 := h1.len
                  have HK1 : Hid (Keeps v4 V.heap.size b1 most lv1 L1) := h1
                  clear h1 h2 e1 e2 hlv2 hll
                  go_upto_region 29 with fail
                  go_quiet ((go_at_call 19; exact Calls.quiet_of_same (CLN _ (HK1.out.below (below_dr (Below.refl _ _) _)))))
                  have HT2 : Hid (Two8 V (v4.drewN nq) V.heap.size b1 (V.heap.size + 1) most Z Z) := HT.out.below (below_dr (Below.refl _ _) nq)
                  clear b1c CLN HK1 HT
                  go_wp2
                  go_roundw
                  case rel => exact ⟨i + 1, b1, Z, by omega, by go_num, rfl, HT2⟩
                  case measure => simp [intOf]; omega
            by_cases h2 : z.act = 2
            · rw [h2]
              clear h2 h1 h0
              as_aux_lemma =>
                obtain ⟨lv1, L1, lv2, L2, h1, h2, e1, e2, ha, hw, hn⟩ := HT1.out
                have HS1 : Hid (Keeps wr V.heap.size b1 most lv1 L1 ∧ (L1.map fun r => r.2) = Z) := ⟨h1, e1⟩
                have HS2 : Hid (Keeps wr V.heap.size (V.heap.size + 1) most lv2 L2 ∧ (L2.map fun r => r.2) = Z) := ⟨h2, e2⟩
                have HS3 : Hid (Apart b1 lv1 L1 (V.heap.size + 1) lv2 L2) := ha
                have HS4 : Hid (Below V.heap.size V wr ∧ V.heap.size ≤ wr.heap.size) := ⟨hw, hn⟩
                have HNE : Hid (b1 ≠ nb ∧ ∀ k, lv1.ownBlock = some k → k ≠ nb) := ⟨by have := h1.obj.lt; have := HNB.out; omega, fun k hk => by have := h1.own_lt k hk; have := HNB.out; omega⟩
                have HNX : Hid (V.heap.size + 1 ≠ nb ∧ ∀ k, lv2.ownBlock = some k → k ≠ nb) := ⟨by have := h2.obj.lt; have := HNB.out; omega, fun k hk => by have := h2.own_lt k hk; have := HNB.out; omega⟩
                clear h1 h2 e1 e2 ha hw hn
                obtain ⟨AL, hAL⟩ : ∃ AL, Value.agg (actC z).toArray = AL := ⟨_, rfl⟩
                have HAL : Hid (Value.agg (actC z).toArray = AL) := hAL
                clear hAL
                obtain ⟨q, hq⟩ : ∃ q, actL z = q := ⟨_, rfl⟩
                have HQ : Hid (actL z = q) := hq
                have HQM : Hid (Mid q) := by
                  rw [← hq]
                  have hm := HZ.out.2.2
                  unfold actL
                  split
                  · unfold sealL; split <;> exact ⟨hm.hl, hm.hr, hm.hv⟩
                  · exact hm
                have HHL : Hid (∀ X, Below w.heap.size w X → Held X z.row.1 z.row.2) := fun X hX => HZ.out.1.below hX
                have CL1 : Calls _ _ _ _ _ := (lsa_at z V0.drew AL HAL.out (HHL.out _ (HWW.out.trans (HB0.out.drew.mono HWW.out.size))) HZ.out.2.1 HZ.out.2.2).mono (R' := fun e w' => ∃ s1, e = .returned (.agg (lsaA s1 q)) ∧ Hid (Held w' s1 q ∧ Nils s1 ∧ Below wr.heap.size wr w') ∧ Var w' nb (actC z)) fun e w' h => by
                  obtain ⟨s1, h1, h2, h3, h4, -⟩ := h
                  rw [HQ.out] at h1 h2
                  exact ⟨s1, h1, ⟨h2, h3, below_more HB0.out.drew h4 HB0.out.drew.size⟩, (HAV.out.below (Below.refl _ _).drew HAV.out.lt).below h4 (HAV.out.below (Below.refl _ _).drew HAV.out.lt).lt⟩
                have CP1 : Hid (∀ s1 v1, (Held v1 s1 q ∧ Nils s1 ∧ Below wr.heap.size wr v1) → Var v1 nb (actC z) → Calls Try.prog 10 #[.pointer (some ⟨b1, 0, none⟩), .agg (lsaA s1 q)] v1 fun e w' => e = .returned (.int .i64 (dbE most Z q)) ∧ Hid (∃ lv' L', Keeps w' V.heap.size b1 most lv' L' ∧ (L'.map fun r => r.2) = dbZ most Z q ∧ Keeps w' V.heap.size (V.heap.size + 1) most lv2 L2 ∧ Apart b1 lv' L' (V.heap.size + 1) lv2 L2 ∧ Below V.heap.size V w' ∧ V.heap.size ≤ w'.heap.size) ∧ Var w' nb (actC z)) := by
                  intro s1 v1 ⟨g1, g2, g3⟩ hv
                  have hwd : Below V.heap.size V v1 := below_more HS4.out.1 g3 HS4.out.2
                  have hnd : V.heap.size ≤ v1.heap.size := Nat.le_trans HS4.out.2 g3.size
                  refine (put_step V.heap.size b1 most hm2 lv1 L1 s1 q v1 (HS1.out.1.below g3) g1 HQM.out g2 hnd).mono ?_
                  rintro e w' ⟨rfl, lv', L', k1, k2, k3, k4⟩
                  rw [HS1.out.2] at k2 ⊢
                  obtain ⟨m1, m2⟩ := HS3.out.turn (HS1.out.1.below g3) (HS2.out.1.below g3) k3 k4
                  exact ⟨rfl, ⟨lv', L', k1, k2, m1, m2, (HS1.out.1.below g3).btw hwd hnd k3, Nat.le_trans hnd k3.size⟩, hv.turned k3 HNE.out.1 HNE.out.2⟩
                have CL2 : Hid (∀ v2, (∃ lv' L', Keeps v2 V.heap.size b1 most lv' L' ∧ (L'.map fun r => r.2) = dbZ most Z q ∧ Keeps v2 V.heap.size (V.heap.size + 1) most lv2 L2 ∧ Apart b1 lv' L' (V.heap.size + 1) lv2 L2 ∧ Below V.heap.size V v2 ∧ V.heap.size ≤ v2.heap.size) → Var v2 nb (actC z) → Calls Try.prog 11 #[AL] v2 fun e w' => ∃ s2, e = .returned (.agg (lsaA s2 q)) ∧ Hid (Held w' s2 q ∧ Nils s2 ∧ Below v2.heap.size v2 w' ∧ ∀ k, V.heap.size ≤ k → k < v2.heap.size → Off k (s2, q)) ∧ Var w' nb (actC z)) := by
                  intro v2 ht hv
                  have hb : Below w.heap.size w v2 := by
                    obtain ⟨-, -, -, -, -, -, hw, hn⟩ := ht
                    exact HB1.out.trans (hw.mono HB1.out.size)
                  refine (lsa_at z v2 AL HAL.out (HHL.out _ hb) HZ.out.2.1 HZ.out.2.2).mono ?_
                  rintro e w' ⟨s2, h1, h2, h3, h4, h5⟩
                  rw [HQ.out] at h1 h2 h5
                  exact ⟨s2, h1, ⟨h2, h3, h4, fun k hk1 hk2 => h5 k hk2 (off_old HZ.out.1 (Nat.le_trans HB1.out.size hk1))⟩, hv.below h4 hv.lt⟩
                have CP2 : Hid (∀ v2 v3 s2, (∃ lv' L', Keeps v2 V.heap.size b1 most lv' L' ∧ (L'.map fun r => r.2) = dbZ most Z q ∧ Keeps v2 V.heap.size (V.heap.size + 1) most lv2 L2 ∧ Apart b1 lv' L' (V.heap.size + 1) lv2 L2 ∧ Below V.heap.size V v2 ∧ V.heap.size ≤ v2.heap.size) → (Held v3 s2 q ∧ Nils s2 ∧ Below v2.heap.size v2 v3 ∧ ∀ k, V.heap.size ≤ k → k < v2.heap.size → Off k (s2, q)) → Var v3 nb (actC z) → Calls Try.prog 12 #[.pointer (some ⟨V.heap.size + 1, 0, none⟩), .agg (lsaA s2 q)] v3 fun e w' => e = .returned (.int .i64 (dbE most Z q)) ∧ Hid (Two8 V w' V.heap.size b1 (V.heap.size + 1) most (dbZ most Z q) (dbZ most Z q)) ∧ Var w' nb (actC z)) := by
                  intro v2 v3 s2 ⟨m1, M1, k1, e1, k2, ha, hw, hn⟩ ⟨g1, g2, g3, g4⟩ hv
                  have hnd : V.heap.size ≤ v3.heap.size := Nat.le_trans hn g3.size
                  refine (dput_step V.heap.size (V.heap.size + 1) most hm2 lv2 L2 s2 q v3 (k2.below g3) g1 HQM.out g2 hnd (g4 _ (by omega) k2.obj.lt) (fun k hk => g4 k (k2.own_lo k hk) (k2.own_lt k hk))).mono ?_
                  rintro e w' ⟨rfl, lv9, L9, n1, n2, n3, n4⟩
                  rw [HS2.out.2] at n2 ⊢
                  exact ⟨rfl, Two8.two (k1.below g3) (k2.below g3) ha (below_more hw g3 hn) hnd n1 e1 n2 n3 n4, hv.turned n3 HNX.out.1 HNX.out.2⟩
                generalize hEE : dbE most Z q = E at CP1 CP2
                generalize dbZ most Z q = Z' at CP1 CL2 CP2
                clear hEE hq
                clear HT0 HT1
                go_upto_region 17 with fail
                refine wp_region_held_drew (S := (fun X => Var X nb (actC z))) (by kernel_rfl) ?_ (fun hHeld => ?_)
                · exact HAV.out.below (Below.refl _ _).drew HAV.out.lt
                refine wpAnyH_take (i := 0) (oi := ?_) (v := ?_) ?_ (by kernel_rfl) (by kernel_rfl) (by kernel_rfl) ?_ (Or.inl ⟨?_, ?_⟩) hHeld ?_
                rotate_left 2
                · simp only [List.getElem?_toArray, List.getElem?_cons_zero]; with_reducible rfl
                · exact fun _ _ _ h => h
                · rfl
                · intro wS hSw; (try dsimp only at hSw); go_simp <;> with_reducible rfl
                simp only [put_lit, List.set]
                refine wpAnyH_take (i := 1) (oi := ?_) (v := AL) ?_ (by kernel_rfl) (by kernel_rfl) (by kernel_rfl) ?_ (Or.inl ⟨?_, ?_⟩) hHeld ?_
                rotate_left
                · simp only [List.getElem?_toArray, List.getElem?_cons_zero, List.getElem?_cons_succ]; with_reducible rfl
                · exact fun _ _ _ h => h
                · rfl
                · intro wS hSw; exact load_actV HAL.out rfl rfl wS hSw
                simp only [put_lit, List.set]
                refine wpAnyH_take (i := 5) (oi := ?_) (v := ?_) ?_ (by kernel_rfl) (by kernel_rfl) (by kernel_rfl) ?_ (Or.inl ⟨?_, ?_⟩) hHeld ?_
                rotate_left 2
                · simp only [List.getElem?_toArray, List.getElem?_cons_zero, List.getElem?_cons_succ]; with_reducible rfl
                · exact fun _ _ _ h => h
                · rfl
                · intro wS hSw; (try dsimp only at hSw); go_simp <;> with_reducible rfl
                simp only [put_lit, List.set]
                refine wpAnyH_take (i := 6) (oi := ?_) (v := AL) ?_ (by kernel_rfl) (by kernel_rfl) (by kernel_rfl) ?_ (Or.inl ⟨?_, ?_⟩) hHeld ?_
                rotate_left
                · simp only [List.getElem?_toArray, List.getElem?_cons_zero, List.getElem?_cons_succ]; with_reducible rfl
                · exact fun _ _ _ h => h
                · rfl
                · intro wS hSw; exact load_actV HAL.out rfl rfl wS hSw
                simp only [put_lit, List.set]
                refine wpAnyH_ready (rs := [2]) (by kernel_rfl) (by simp) ?_
                refine AllReadyH.cons rfl (fun K hK => ?_) AllReadyH.nil
                go_simp
                go_at_call 11
                refine CL1.mono ?_
                rintro e v1 ⟨s1, rfl, hl1, hv1⟩
                go_wp2_with fail
                refine hK.out _ _ ?_ (fun hHeld2 => ?_)
                · exact hv1
                clear hK K hHeld
                have hHeld := hHeld2
                clear hHeld2
                (try simp only [put_lit, List.set])
                refine wpAnyH_ready (rs := [3]) (by kernel_rfl) (by simp) ?_
                refine AllReadyH.cons rfl (fun K hK => ?_) AllReadyH.nil
                go_simp
                go_at_call 10
                refine (CP1.out s1 _ hl1.out hv1).mono ?_
                rintro e v2 ⟨rfl, hp1, hv2⟩
                go_wp2_with fail
                refine hK.out _ _ ?_ (fun hHeld2 => ?_)
                · exact hv2
                clear hK K hHeld
                have hHeld := hHeld2
                clear hHeld2
                (try simp only [put_lit, List.set])
                refine wpAnyH_ready (rs := [4]) (by kernel_rfl) (by simp) ?_
                refine AllReadyH.cons rfl (fun K hK => ?_) AllReadyH.nil
                go_simp
                go_at_call 9
                refine (num_any _ _).mono ?_
                rintro e v9 ⟨rfl, rfl⟩
                go_wp2_with fail
                refine hK.out _ _ ?_ (fun hHeld2 => ?_)
                · exact hv2
                clear hK K hHeld
                have hHeld := hHeld2
                clear hHeld2
                (try simp only [put_lit, List.set])
                refine wpAnyH_ready (rs := [7]) (by kernel_rfl) (by simp) ?_
                refine AllReadyH.cons rfl (fun K hK => ?_) AllReadyH.nil
                go_simp
                go_at_call 11
                refine (CL2.out _ hp1.out hv2).mono ?_
                rintro e v3 ⟨s2, rfl, hl2, hv3⟩
                go_wp2_with fail
                refine hK.out _ _ ?_ (fun hHeld2 => ?_)
                · exact hv3
                clear hK K hHeld
                have hHeld := hHeld2
                clear hHeld2
                (try simp only [put_lit, List.set])
                refine wpAnyH_ready (rs := [8]) (by kernel_rfl) (by simp) ?_
                refine AllReadyH.cons rfl (fun K hK => ?_) AllReadyH.nil
                go_simp
                go_at_call 12
                refine (CP2.out _ _ s2 hp1.out hl2.out hv3).mono ?_
                rintro e v4 ⟨rfl, hp2, hv4⟩
                go_wp2_with fail
                refine hK.out _ _ ?_ (fun hHeld2 => ?_)
                · exact hv4
                clear hK K hHeld
                have hHeld := hHeld2
                clear hHeld2
                (try simp only [put_lit, List.set])
                refine wpAnyH_take (i := 9) (oi := ?_) (v := ?_) ?_ (by kernel_rfl) (by kernel_rfl) (by kernel_rfl) ?_ (Or.inl ⟨?_, ?_⟩) hHeld ?_
                rotate_left 2
                · simp only [List.getElem?_toArray, List.getElem?_cons_zero, List.getElem?_cons_succ]; with_reducible rfl
                · exact fun _ _ _ h => h
                · rfl
                · intro wS hSw; (try dsimp only at hSw); go_simp <;> with_reducible rfl
                simp only [put_lit, List.set]
                refine wpAnyH_done (by kernel_rfl) ?_ _
                have HT : Hid (Two8 V v4 V.heap.size b1 (V.heap.size + 1) most Z' Z') := hp2.out
                clear hHeld CL1 CP1 CL2 CP2 hl1 hv1 hp1 hv2 hl2 hv3 hp2 hv4 HS1 HS2 HS3 HQ HQM HHL
                obtain ⟨Z, rfl⟩ : ∃ Z, Z = Z' := ⟨_, rfl⟩
                as_aux_lemma =>
                  obtain ⟨lv1, L1, lv2, L2, h1, h2, e1, e2, -, -, -⟩ := HT.out
                  obtain ⟨a2, c2, hlv2, -, -, -, -, -⟩ := h2.lies
                  have hll : L2.length = L1.length := by
                    have := congrArg List.length (e1.trans e2.symm)
                    rw [List.length_map, List.length_map] at this; exact this.symm
                  rw [hll] at hlv2
                  have b1c := h2.obj.cell 1 rfl
                  rw [hlv2] at b1c
                  have CLN := len_any V.heap.size b1 most lv1 L1
                  have hlen1 : L1.length ≤ 1000000 := h1.len
                  have HK1 : Hid (Keeps v4 V.heap.size b1 most lv1 L1) := h1
                  clear h1 h2 e1 e2 hlv2 hll
                  go_upto_region 29 with fail
                  go_quiet ((go_at_call 19; exact Calls.quiet_of_same (CLN _ (HK1.out.below (below_dr (Below.refl _ _) _)))))
                  have HT2 : Hid (Two8 V (v4.drewN nq) V.heap.size b1 (V.heap.size + 1) most Z Z) := HT.out.below (below_dr (Below.refl _ _) nq)
                  clear b1c CLN HK1 HT
                  go_wp2
                  go_roundw
                  case rel => exact ⟨i + 1, b1, Z, by omega, by go_num, rfl, HT2⟩
                  case measure => simp [intOf]; omega
            by_cases h3 : z.act = 3
            · rw [h3]
              clear h3 h2 h1 h0
              as_aux_lemma =>
                have d0 := HAV.out.cell 14 rfl
                have d1 := HAV.out.cell 15 rfl
                have d2 := HAV.out.cell 16 rfl
                obtain ⟨lv1, L1, lv2, L2, h1, h2, e1, e2, -, -, -⟩ := HT0.out
                have CG1 := get_step V.heap.size b1 most lv1 L1 z.key V0 h1
                rw [e1] at CG1
                obtain ⟨g, hg⟩ : ∃ g, getZ Z z.key = g := ⟨_, rfl⟩
                obtain ⟨tt, htt⟩ : ∃ tt, thereB (asRows Z) z.key = tt := ⟨_, rfl⟩
                have HK2 : Hid (Keeps V0 V.heap.size (V.heap.size + 1) most lv2 L2 ∧ (L2.map fun r => r.2) = Z) := ⟨h2, e2⟩
                have HGT : Hid (getZ Z z.key = g ∧ thereB (asRows Z) z.key = tt) := ⟨hg, htt⟩
                unfold GetEnd8 at CG1
                rw [hg, htt] at CG1
                clear h1 h2 e1 e2 hg htt
                go_wp2_with fail
                refine CG1.mono ?_
                rintro e v1 ⟨s1, rfl, hh, hf, hb⟩
                have HB1' : Hid (Below V0.heap.size V0 (v1.alloc (.cells (lsaA s1 g) 39))) := hb.alloc hb.size _
                have HX1 : Hid (Box (v1.alloc (.cells (lsaA s1 g) 39)) v1.heap.size s1 g) := box_new v1 s1 g
                have HH1 : Hid (Held (v1.alloc (.cells (lsaA s1 g) 39)) s1 g ∧ Fits g) := ⟨hh.below (below_new' _ _), hf⟩
                clear hh hf hb CG1 d0 d1 d2
                go_upto_region 21 with fail
                obtain ⟨n1, hn1⟩ : ∃ n1, v1.heap.size = n1 := ⟨_, rfl⟩
                rw [hn1] at HX1 ⊢
                generalize v1.alloc (.cells (lsaA s1 g) 39) = V1 at *
                clear hn1
                have hav := HAV.out.below HB1'.out HAV.out.lt
                have d0 := hav.cell 14 rfl
                have d1 := hav.cell 15 rfl
                have d2 := hav.cell 16 rfl
                have CG2 := dget_step V.heap.size (V.heap.size + 1) most lv2 L2 z.key V1 (HK2.out.1.below HB1'.out)
                rw [HK2.out.2] at CG2
                unfold GetEnd8 at CG2
                rw [HGT.out.1, HGT.out.2] at CG2
                go_wp2_with fail
                refine CG2.mono ?_
                rintro e v2 ⟨s2, rfl, hh, -, hb⟩
                have HB2' : Hid (Below V0.heap.size V0 (v2.alloc (.cells (lsaA s2 g) 39))) := (below_more HB1'.out hb HB1'.out.size).alloc (Nat.le_trans HB1'.out.size hb.size) _
                have HX2 : Hid (Box (v2.alloc (.cells (lsaA s2 g) 39)) v2.heap.size s2 g) := box_new v2 s2 g
                have HX1b : Hid (Box (v2.alloc (.cells (lsaA s2 g) 39)) n1 s1 g) := (HX1.out.below hb HX1.out.lt).below (below_new' _ _) (Nat.lt_of_lt_of_le HX1.out.lt hb.size)
                have HH2 : Hid (Held (v2.alloc (.cells (lsaA s2 g) 39)) s2 g ∧ Held (v2.alloc (.cells (lsaA s2 g) 39)) s1 g) := ⟨hh.below (below_new' _ _), (HH1.out.1.below hb).below (below_new' _ _)⟩
                clear hh hb CG2 d0 d1 d2 hav HX1
                go_upto_region 22 with fail
                generalize v2.alloc (.cells (lsaA s2 g) 39) = V2 at *
                obtain ⟨c0, c1, c2, c3, c4, c5, c6, c7, c8, c9, c10, c11⟩ := HX1b.out
                obtain ⟨y0, y1, y2, y3, y4, y5, y6, y7, y8, y9, y10, y11⟩ := HX2.out
                have CS := dSame_eq s1 s2 g V2 HH2.out.2 HH2.out.1 HH1.out.2
                go_wp2_with fail
                refine CS.mono ?_
                rintro e v3 ⟨rfl, hb⟩
                have HT : Hid (Two8 V v3 V.heap.size b1 (V.heap.size + 1) most Z Z) := HT0.out.below (below_more HB2'.out hb HB2'.out.size)
                clear hb CS c0 c1 c2 c3 c4 c5 c6 c7 c8 c9 c10 c11 y0 y1 y2 y3 y4 y5 y6 y7 y8 y9 y10 y11 HX1b HX2 HH2 HH1 HK2 HGT
                cases tt
                all_goals
                  as_aux_lemma =>
                    obtain ⟨lv1, L1, lv2, L2, h1, h2, e1, e2, -, -, -⟩ := HT.out
                    obtain ⟨a2, c2, hlv2, -, -, -, -, -⟩ := h2.lies
                    have hll : L2.length = L1.length := by
                      have := congrArg List.length (e1.trans e2.symm)
                      rw [List.length_map, List.length_map] at this; exact this.symm
                    rw [hll] at hlv2
                    have b1c := h2.obj.cell 1 rfl
                    rw [hlv2] at b1c
                    have CLN := len_any V.heap.size b1 most lv1 L1
                    have hlen1 : L1.length ≤ 1000000 := h1.len
                    have HK1 : Hid (Keeps v3 V.heap.size b1 most lv1 L1) := h1
                    clear h1 h2 e1 e2 hlv2 hll
                    go_upto_region 29 with fail
                    go_quiet ((go_at_call 19; exact Calls.quiet_of_same (CLN _ (HK1.out.below (below_dr (Below.refl _ _) _)))))
                    have HT2 : Hid (Two8 V (v3.drewN nq) V.heap.size b1 (V.heap.size + 1) most Z Z) := HT.out.below (below_dr (Below.refl _ _) nq)
                    clear b1c CLN HK1 HT
                    go_wp2
                    go_roundw
                    case rel => exact ⟨i + 1, b1, Z, by omega, by go_num, rfl, HT2⟩
                    case measure => simp [intOf]; omega
            by_cases h4 : z.act = 4
            · rw [h4]
              clear h4 h3 h2 h1 h0
              as_aux_lemma =>
                obtain ⟨lv1, L1, lv2, L2, h1, h2, e1, e2, ha, hw, hn⟩ := HT1.out
                have HS1 : Hid (Keeps wr V.heap.size b1 most lv1 L1 ∧ (L1.map fun r => r.2) = Z) := ⟨h1, e1⟩
                have HS2 : Hid (Keeps wr V.heap.size (V.heap.size + 1) most lv2 L2 ∧ (L2.map fun r => r.2) = Z) := ⟨h2, e2⟩
                have HS3 : Hid (Apart b1 lv1 L1 (V.heap.size + 1) lv2 L2) := ha
                have HS4 : Hid (Below V.heap.size V wr ∧ V.heap.size ≤ wr.heap.size) := ⟨hw, hn⟩
                have HNE : Hid (b1 ≠ nb ∧ ∀ k, lv1.ownBlock = some k → k ≠ nb) := ⟨by have := h1.obj.lt; have := HNB.out; omega, fun k hk => by have := h1.own_lt k hk; have := HNB.out; omega⟩
                have HNX : Hid (V.heap.size + 1 ≠ nb ∧ ∀ k, lv2.ownBlock = some k → k ≠ nb) := ⟨by have := h2.obj.lt; have := HNB.out; omega, fun k hk => by have := h2.own_lt k hk; have := HNB.out; omega⟩
                clear h1 h2 e1 e2 ha hw hn
                have CK1 : Calls _ _ _ _ _ := (drop_step V.heap.size b1 most lv1 L1 z.key V0.drew (HS1.out.1.below HB0.out.drew)).mono (R' := fun e w' => e = .returned (.bool (thereB (asRows Z) z.key)) ∧ Hid (Two8 V w' V.heap.size b1 (V.heap.size + 1) most (dropZ Z z.key) Z) ∧ Var w' nb (actC z)) fun e w' h => by
                  obtain ⟨rfl, lv', L', k1, k2, k3, k4⟩ := h
                  have hd : Below wr.heap.size wr V0.drew := HB0.out.drew
                  have hwd : Below V.heap.size V V0.drew := below_more HS4.out.1 hd HS4.out.2
                  have hnd : V.heap.size ≤ V0.drew.heap.size := Nat.le_trans HS4.out.2 hd.size
                  rw [HS1.out.2] at k2 ⊢
                  refine ⟨rfl, Two8.one (HS1.out.1.below hd) (HS2.out.1.below hd) HS3.out hwd hnd k1 k2 HS2.out.2 k3 k4, ?_⟩
                  exact (HAV.out.below (Below.refl _ _).drew HAV.out.lt).turned k3 HNE.out.1 HNE.out.2
                have CK2 : Hid (∀ v1, Two8 V v1 V.heap.size b1 (V.heap.size + 1) most (dropZ Z z.key) Z → Calls Try.prog 17 #[.pointer (some ⟨V.heap.size + 1, 0, none⟩), .agg (keyV z.key)] v1 fun e w' => e = .returned (.bool (thereB (asRows Z) z.key)) ∧ Hid (Two8 V w' V.heap.size b1 (V.heap.size + 1) most (dropZ Z z.key) (dropZ Z z.key))) := by
                  intro v1 ⟨m1, M1, m2, M2, k1, k2, e1, e2, ha, hw, hn⟩
                  refine (ddrop_step V.heap.size (V.heap.size + 1) most m2 M2 z.key v1 k2 hn).mono ?_
                  rintro e w' ⟨rfl, lv9, L9, n1, n2, n3, n4⟩
                  rw [e2] at n2 ⊢
                  exact ⟨rfl, Two8.two k1 k2 ha hw hn n1 e1 n2 n3 n4⟩
                have d0 := HAV.out.cell 14 rfl
                have d1 := HAV.out.cell 15 rfl
                have d2 := HAV.out.cell 16 rfl
                generalize hkb' : thereB (asRows Z) z.key = d at CK1 CK2
                generalize dropZ Z z.key = Z' at CK1 CK2
                clear hkb'
                go_upto_region 25 with fail
                go_region_with (first
                  | (go_at_call 16; refine CK1.mono ?_; rintro e v1 ⟨rfl, hk1, hv1⟩; have d0' := hv1.cell 14 rfl; have d1' := hv1.cell 15 rfl; have d2' := hv1.cell 16 rfl)
                  | (go_at_call 17; refine (CK2.out v1 hk1.out).mono ?_; rintro e v2 ⟨rfl, hk2⟩))
                all_goals
                  clear d0 d1 d2 d0' d1' d2' CK1 CK2 hk1 hv1 HS1 HS2 HS3 HT0 HT1
                  have HT : Hid (Two8 V v2 V.heap.size b1 (V.heap.size + 1) most Z' Z') := hk2.out
                  clear hk2
                  obtain ⟨Z, rfl⟩ : ∃ Z, Z = Z' := ⟨_, rfl⟩
                  cases d
                  all_goals
                    as_aux_lemma =>
                      obtain ⟨lv1, L1, lv2, L2, h1, h2, e1, e2, -, -, -⟩ := HT.out
                      obtain ⟨a2, c2, hlv2, -, -, -, -, -⟩ := h2.lies
                      have hll : L2.length = L1.length := by
                        have := congrArg List.length (e1.trans e2.symm)
                        rw [List.length_map, List.length_map] at this; exact this.symm
                      rw [hll] at hlv2
                      have b1c := h2.obj.cell 1 rfl
                      rw [hlv2] at b1c
                      have CLN := len_any V.heap.size b1 most lv1 L1
                      have hlen1 : L1.length ≤ 1000000 := h1.len
                      have HK1 : Hid (Keeps v2 V.heap.size b1 most lv1 L1) := h1
                      clear h1 h2 e1 e2 hlv2 hll
                      go_upto_region 29 with fail
                      go_quiet ((go_at_call 19; exact Calls.quiet_of_same (CLN _ (HK1.out.below (below_dr (Below.refl _ _) _)))))
                      have HT2 : Hid (Two8 V (v2.drewN nq) V.heap.size b1 (V.heap.size + 1) most Z Z) := HT.out.below (below_dr (Below.refl _ _) nq)
                      clear b1c CLN HK1 HT
                      go_wp2
                      go_roundw
                      case rel => exact ⟨i + 1, b1, Z, by omega, by go_num, rfl, HT2⟩
                      case measure => simp [intOf]; omega
            by_cases h5 : z.act = 5
            · rw [h5]
              clear h5 h4 h3 h2 h1 h0
              as_aux_lemma =>
                have CC := HT0.out.copy
                go_wp2_with fail
                refine CC.mono ?_
                rintro e v3 ⟨b, rfl, ht, hb⟩
                have HT : Hid (Two8 V v3 V.heap.size b (V.heap.size + 1) most Z Z) := ht
                clear ht hb CC HT0 HAV
                as_aux_lemma =>
                  obtain ⟨lv1, L1, lv2, L2, h1, h2, e1, e2, -, -, -⟩ := HT.out
                  obtain ⟨a2, c2, hlv2, -, -, -, -, -⟩ := h2.lies
                  have hll : L2.length = L1.length := by
                    have := congrArg List.length (e1.trans e2.symm)
                    rw [List.length_map, List.length_map] at this; exact this.symm
                  rw [hll] at hlv2
                  have b1c := h2.obj.cell 1 rfl
                  rw [hlv2] at b1c
                  have CLN := len_any V.heap.size b most lv1 L1
                  have hlen1 : L1.length ≤ 1000000 := h1.len
                  have HK1 : Hid (Keeps v3 V.heap.size b most lv1 L1) := h1
                  clear h1 h2 e1 e2 hlv2 hll
                  go_upto_region 29 with fail
                  go_quiet ((go_at_call 19; exact Calls.quiet_of_same (CLN _ (HK1.out.below (below_dr (Below.refl _ _) _)))))
                  have HT2 : Hid (Two8 V (v3.drewN nq) V.heap.size b (V.heap.size + 1) most Z Z) := HT.out.below (below_dr (Below.refl _ _) nq)
                  clear b1c CLN HK1 HT
                  go_wp2
                  go_roundw
                  case rel => exact ⟨i + 1, b, Z, by omega, by go_num, rfl, HT2⟩
                  case measure => simp [intOf]; omega
            · have q0 : (z.act == 0) = false := by simp; omega
              have q1 : (z.act == 1) = false := by simp; omega
              have q2 : (z.act == 2) = false := by simp; omega
              have q3 : (z.act == 3) = false := by simp; omega
              have q4 : (z.act == 4) = false := by simp; omega
              have q5 : (z.act == 5) = false := by simp; omega
              have HT : Hid (Two8 V V0 V.heap.size b1 (V.heap.size + 1) most Z Z) := HT0.out
              clear h0 h1 h2 h3 h4 h5 HT0
              as_aux_lemma =>
                obtain ⟨lv1, L1, lv2, L2, h1, h2, e1, e2, -, -, -⟩ := HT.out
                obtain ⟨a2, c2, hlv2, -, -, -, -, -⟩ := h2.lies
                have hll : L2.length = L1.length := by
                  have := congrArg List.length (e1.trans e2.symm)
                  rw [List.length_map, List.length_map] at this; exact this.symm
                rw [hll] at hlv2
                have b1c := h2.obj.cell 1 rfl
                rw [hlv2] at b1c
                have CLN := len_any V.heap.size b1 most lv1 L1
                have hlen1 : L1.length ≤ 1000000 := h1.len
                have HK1 : Hid (Keeps V0 V.heap.size b1 most lv1 L1) := h1
                clear h1 h2 e1 e2 hlv2 hll
                go_upto_region 29 with fail
                go_quiet ((go_at_call 19; exact Calls.quiet_of_same (CLN _ (HK1.out.below (below_dr (Below.refl _ _) _)))))
                have HT2 : Hid (Two8 V (V0.drewN nq) V.heap.size b1 (V.heap.size + 1) most Z Z) := HT.out.below (below_dr (Below.refl _ _) nq)
                clear b1c CLN HK1 HT
                go_wp2
                go_roundw
                case rel => exact ⟨i + 1, b1, Z, by omega, by go_num, rfl, HT2⟩
                case measure => simp [intOf]; omega
        · as_aux_lemma =>
            obtain rfl : i = L0.length := by omega
            have hnl : ¬ ((L0.length : Int) < (L0.length : Int)) := by omega
            obtain ⟨lv1, L1, lv2, L2, h1, h2, e1, e2, ha, hw', hn⟩ := HT1.out
            have HA : Hid (Below V.heap.size V wr ∧ V.heap.size ≤ wr.heap.size) := ⟨hw', hn⟩
            obtain ⟨a2, c2, hlv2, hli2, -, -, -, -⟩ := h2.lies
            have hll : L2.length = L1.length := by
              have := congrArg List.length (e1.trans e2.symm)
              rw [List.length_map, List.length_map] at this; exact this.symm
            have hle : L1.length ≤ 1000000 := h1.len
            rw [hll] at hlv2
            have HB2 : Hid (∀ X, Below wr.heap.size wr X → X.cell? ⟨V.heap.size + 1, 1, none⟩ = some (.slice a2 L1.length c2)) := fun X hX => by rw [← hlv2]; exact (h2.below hX).obj.cell 1 rfl
            have HH2 : Hid (RowsIn wr a2 L2) := ⟨hli2, fun r hr => ⟨h2.held r hr, h2.mid r hr⟩⟩
            obtain ⟨D, hD⟩ : ∃ D, (L1.map fun r => r.2.head) = D := ⟨_, rfl⟩
            have hD2 : (L2.map fun r => r.2.head) = D := by
              rw [← hD]
              have := congrArg (List.map fun (l : LsaZ) => l.head) (e2.trans e1.symm)
              rw [List.map_map, List.map_map] at this
              exact this
            have hDl : D.length = L1.length := by rw [← hD, List.length_map]
            have CA : Calls _ _ _ _ _ := (all_any V.heap.size b1 most lv1 L1 wr.drew (h1.below (Below.refl _ _).drew)).mono (R' := fun e w' => ∃ g c, e = .returned (.slice (some ⟨g, 0, none⟩) L1.length c) ∧ Hid (Below wr.heap.size wr w' ∧ Calls Try.prog 20 #[.slice (some ⟨g, 0, none⟩) L1.length c, .slice a2 L1.length c2] w' fun e w'' => e = .returned (.bool true) ∧ Below w'.heap.size w' w'')) fun e w' h => by
              obtain ⟨g, c, R, rfl, hg, hRl, hown, hR, hb⟩ := h
              have hX : Below wr.heap.size wr w' := ((Below.refl _ _).drew).trans hb
              refine ⟨g, c, rfl, hX, ?_⟩
              have hRI : RowsIn w' (some ⟨g, 0, none⟩) R := ⟨owns_lies hown, fun r hr => by
                obtain ⟨j, hj, rfl⟩ := List.getElem_of_mem hr
                obtain ⟨q1, q2⟩ := hR j (by rw [← hRl]; exact hj) hj
                exact ⟨q2.1, by rw [q1]; exact h1.mid _ (List.getElem_mem _)⟩⟩
              have hmap : R.map (fun r => r.2) = L2.map (fun r => r.2) := by
                rw [e2, ← e1]
                refine List.ext_getElem (by simp [hRl]) fun j h1 h2 => ?_
                simp only [List.length_map] at h1 h2
                simp only [List.getElem_map]
                exact (hR j h2 h1).1
              exact dlsas_any _ _ c c2 L1.length R L2 w' hRI (HH2.out.below hX) hRl.symm hll.symm hmap hle
            have CB : Hid (∀ X, Below wr.heap.size wr X → Calls Try.prog 23 #[.pointer (some ⟨b1, 0, none⟩)] X fun e w' => ∃ g c, e = .returned (.slice (some ⟨g, 0, none⟩) L1.length c) ∧ Hid (Below wr.heap.size wr w' ∧ Lies w' (some ⟨g, 0, none⟩) (cellsOf hdC D))) := fun X hX => (heads_any V.heap.size b1 most lv1 L1 X (h1.below hX)).mono fun e w' h => by
              obtain ⟨g, c, rfl, -, hown, hb⟩ := h
              rw [hD] at hown
              rw [← hDl] at hown
              exact ⟨g, c, rfl, below_more hX hb hX.size, owns_lies hown⟩
            have CD : Hid (∀ X, Below wr.heap.size wr X → Calls Try.prog 24 #[.pointer (some ⟨V.heap.size + 1, 0, none⟩)] X fun e w' => ∃ a3 c3, e = .returned (.slice a3 L1.length c3) ∧ Hid (Below X.heap.size X w' ∧ Lies w' a3 (cellsOf hdC D))) := fun X hX => (dheads_any V.heap.size (V.heap.size + 1) most lv2 L2 X (h2.below hX)).mono fun e w' h => by
              obtain ⟨v, rfl, hown, hb⟩ := h
              rw [hD2] at hown
              rcases hown.2 with ⟨k1, k2⟩ | ⟨g', cap', cur, k1, k2, k3, k4⟩
              · have hD0 : D = [] := List.eq_nil_of_length_eq_zero k2
                exact ⟨none, 0, by rw [k1, ← hDl, hD0]; rfl, hb, .inl (by rw [hD0]; rfl)⟩
              · subst k1
                exact ⟨_, cap', by rw [hDl], hb, owns_lies hown⟩
            clear h1 h2 e1 e2 ha hw' hn hlv2 hli2 hll HT1 hD hD2
            go_upto_region 31 with fail
            refine wp_region_held_drew (S := (fun X => Hid (Below wr.heap.size wr X))) (by kernel_rfl) ?_ (fun hHeld => ?_)
            · exact (Below.refl _ _).drew
            refine wpAnyH_take (i := 0) (oi := ?_) (v := ?_) ?_ (by kernel_rfl) (by kernel_rfl) (by kernel_rfl) ?_ (Or.inl ⟨?_, ?_⟩) hHeld ?_
            rotate_left 2
            · simp only [List.getElem?_toArray, List.getElem?_cons_zero]; with_reducible rfl
            · exact fun _ _ _ h => h
            · rfl
            · intro wS hSw; (try dsimp only at hSw); go_simp <;> with_reducible rfl
            simp only [put_lit, List.set]
            refine wpAnyH_take (i := 2) (oi := ?_) (v := ?_) ?_ (by kernel_rfl) (by kernel_rfl) (by kernel_rfl) ?_ (Or.inl ⟨?_, ?_⟩) hHeld ?_
            rotate_left 2
            · simp only [List.getElem?_toArray, List.getElem?_cons_zero, List.getElem?_cons_succ]; with_reducible rfl
            · exact fun _ _ _ h => h
            · rfl
            · intro wS hSw; (try dsimp only at hSw); go_simp <;> with_reducible rfl
            simp only [put_lit, List.set]
            refine wpAnyH_take (i := 3) (oi := ?_) (v := ?_) ?_ (by kernel_rfl) (by kernel_rfl) (by kernel_rfl) ?_ (Or.inl ⟨?_, ?_⟩) hHeld ?_
            rotate_left 2
            · simp only [List.getElem?_toArray, List.getElem?_cons_zero, List.getElem?_cons_succ]; with_reducible rfl
            · exact fun _ _ _ h => h
            · rfl
            · intro wS hSw; (try dsimp only at hSw); go_simp <;> with_reducible rfl
            simp only [put_lit, List.set]
            refine wpAnyH_take (i := 4) (oi := ?_) (v := ?_) ?_ (by kernel_rfl) (by kernel_rfl) (by kernel_rfl) ?_ (Or.inl ⟨?_, ?_⟩) hHeld ?_
            rotate_left 2
            · simp only [List.getElem?_toArray, List.getElem?_cons_zero, List.getElem?_cons_succ]; with_reducible rfl
            · exact fun _ _ _ h => h
            · rfl
            · intro wS hSw; (try dsimp only at hSw); go_simp <;> with_reducible rfl
            simp only [put_lit, List.set]
            refine wpAnyH_take (i := 5) (oi := ?_) (v := ?_) ?_ (by kernel_rfl) (by kernel_rfl) (by kernel_rfl) ?_ (Or.inl ⟨?_, ?_⟩) hHeld ?_
            rotate_left 2
            · simp only [List.getElem?_toArray, List.getElem?_cons_zero, List.getElem?_cons_succ]; with_reducible rfl
            · exact fun _ _ _ h => h
            · rfl
            · intro wS hSw; have hl := HB2.out wS hSw.out; go_simp <;> with_reducible rfl
            simp only [put_lit, List.set]
            refine wpAnyH_ready (rs := [1]) (by kernel_rfl) (by simp) ?_
            refine AllReadyH.cons rfl (fun K hK => ?_) AllReadyH.nil
            go_simp
            go_at_call 21
            refine CA.mono ?_
            rintro e v1 ⟨g, c, rfl, hv⟩
            go_wp2_with fail
            refine hK.out _ _ ?_ (fun hHeld2 => ?_)
            · exact hv.out.1
            clear hK K hHeld
            have hHeld := hHeld2
            clear hHeld2
            (try simp only [put_lit, List.set])
            refine wpAnyH_ready (rs := [6]) (by kernel_rfl) (by simp) ?_
            refine AllReadyH.cons rfl (fun K hK => ?_) AllReadyH.nil
            go_simp
            go_at_call 20
            refine hv.out.2.mono ?_
            rintro e v2 ⟨rfl, hb2⟩
            have hv2 : Hid (Below wr.heap.size wr v2) := below_more hv.out.1 hb2 hv.out.1.size
            go_wp2_with fail
            refine hK.out _ _ ?_ (fun hHeld2 => ?_)
            · exact hv2
            clear hK K hHeld
            have hHeld := hHeld2
            clear hHeld2
            (try simp only [put_lit, List.set])
            refine wpAnyH_take (i := 7) (oi := ?_) (v := ?_) ?_ (by kernel_rfl) (by kernel_rfl) (by kernel_rfl) ?_ (Or.inl ⟨?_, ?_⟩) hHeld ?_
            rotate_left 2
            · simp only [List.getElem?_toArray, List.getElem?_cons_zero, List.getElem?_cons_succ]; with_reducible rfl
            · exact fun _ _ _ h => h
            · rfl
            · intro wS hSw; (try dsimp only at hSw); go_simp <;> with_reducible rfl
            simp only [put_lit, List.set]
            refine wpAnyH_take (i := 8) (oi := ?_) (v := ?_) ?_ (by kernel_rfl) (by kernel_rfl) (by kernel_rfl) ?_ (Or.inl ⟨?_, ?_⟩) hHeld ?_
            rotate_left 2
            · simp only [List.getElem?_toArray, List.getElem?_cons_zero, List.getElem?_cons_succ]; with_reducible rfl
            · exact fun _ _ _ h => h
            · rfl
            · intro wS hSw; (try dsimp only at hSw); go_simp <;> with_reducible rfl
            simp only [put_lit, List.set]
            refine wpAnyH_take (i := 10) (oi := ?_) (v := ?_) ?_ (by kernel_rfl) (by kernel_rfl) (by kernel_rfl) ?_ (Or.inl ⟨?_, ?_⟩) hHeld ?_
            rotate_left 2
            · simp only [List.getElem?_toArray, List.getElem?_cons_zero, List.getElem?_cons_succ]; with_reducible rfl
            · exact fun _ _ _ h => h
            · rfl
            · intro wS hSw; (try dsimp only at hSw); go_simp <;> with_reducible rfl
            simp only [put_lit, List.set]
            refine wpAnyH_ready (rs := [9]) (by kernel_rfl) (by simp) ?_
            refine AllReadyH.cons rfl (fun K hK => ?_) AllReadyH.nil
            go_simp
            go_at_call 23
            refine (CB.out v2 hv2.out).mono ?_
            rintro e v3 ⟨g3, c3, rfl, hv3⟩
            go_wp2_with fail
            refine hK.out _ _ ?_ (fun hHeld2 => ?_)
            · exact hv3.out.1
            clear hK K hHeld
            have hHeld := hHeld2
            clear hHeld2
            (try simp only [put_lit, List.set])
            refine wpAnyH_ready (rs := [11]) (by kernel_rfl) (by simp) ?_
            refine AllReadyH.cons rfl (fun K hK => ?_) AllReadyH.nil
            go_simp
            go_at_call 24
            refine (CD.out v3 hv3.out.1).mono ?_
            rintro e v4 ⟨a4, c4, rfl, hv4⟩
            have hv5 : Hid (Below wr.heap.size wr v4) := below_more hv3.out.1 hv4.out.1 hv3.out.1.size
            go_wp2_with fail
            refine hK.out _ _ ?_ (fun hHeld2 => ?_)
            · exact hv5
            clear hK K hHeld
            have hHeld := hHeld2
            clear hHeld2
            (try simp only [put_lit, List.set])
            refine wpAnyH_ready (rs := [12]) (by kernel_rfl) (by simp) ?_
            refine AllReadyH.cons rfl (fun K hK => ?_) AllReadyH.nil
            go_simp
            go_at_call 22
            refine (dheads_at _ _ _ _ D L1.length v4 hDl (hv3.out.2.below hv4.out.1) hv4.out.2 (by rw [hDl]; exact hle)).mono ?_
            rintro e v6 ⟨rfl, hb6⟩
            have hv6 : Hid (Below wr.heap.size wr v6) := below_more hv5.out hb6 hv5.out.size
            go_wp2_with fail
            refine hK.out _ _ ?_ (fun hHeld2 => ?_)
            · exact hv6
            clear hK K hHeld
            have hHeld := hHeld2
            clear hHeld2
            (try simp only [put_lit, List.set])
            refine wpAnyH_take (i := 13) (oi := ?_) (v := ?_) ?_ (by kernel_rfl) (by kernel_rfl) (by kernel_rfl) ?_ (Or.inl ⟨?_, ?_⟩) hHeld ?_
            rotate_left 2
            · simp only [List.getElem?_toArray, List.getElem?_cons_zero, List.getElem?_cons_succ]; with_reducible rfl
            · exact fun _ _ _ h => h
            · rfl
            · intro wS hSw; (try dsimp only at hSw); go_simp <;> with_reducible rfl
            simp only [put_lit, List.set]
            refine wpAnyH_take (i := 14) (oi := ?_) (v := ?_) ?_ (by kernel_rfl) (by kernel_rfl) (by kernel_rfl) ?_ (Or.inl ⟨?_, ?_⟩) hHeld ?_
            rotate_left 2
            · simp only [List.getElem?_toArray, List.getElem?_cons_zero, List.getElem?_cons_succ]; with_reducible rfl
            · exact fun _ _ _ h => h
            · rfl
            · intro wS hSw; (try dsimp only at hSw); go_simp <;> with_reducible rfl
            simp only [put_lit, List.set]
            refine wpAnyH_ready (rs := [15]) (by kernel_rfl) (by simp) ?_
            refine AllReadyH.cons rfl (fun K hK => ?_) AllReadyH.nil
            go_simp
            go_at_call 6
            refine (awake_any _).mono ?_
            rintro e v7 ⟨rfl, hb7⟩
            have hv7 : Hid (Below wr.heap.size wr v7) := below_more hv6.out hb7 hv6.out.size
            go_wp2_with fail
            refine hK.out _ _ ?_ (fun hHeld2 => ?_)
            · exact hv7
            clear hK K hHeld
            have hHeld := hHeld2
            clear hHeld2
            (try simp only [put_lit, List.set])
            refine wpAnyH_take (i := 16) (oi := ?_) (v := ?_) ?_ (by kernel_rfl) (by kernel_rfl) (by kernel_rfl) ?_ (Or.inl ⟨?_, ?_⟩) hHeld ?_
            rotate_left 2
            · simp only [List.getElem?_toArray, List.getElem?_cons_zero, List.getElem?_cons_succ]; with_reducible rfl
            · exact fun _ _ _ h => h
            · rfl
            · intro wS hSw; (try dsimp only at hSw); go_simp <;> with_reducible rfl
            simp only [put_lit, List.set]
            refine wpAnyH_take (i := 17) (oi := ?_) (v := ?_) ?_ (by kernel_rfl) (by kernel_rfl) (by kernel_rfl) ?_ (Or.inl ⟨?_, ?_⟩) hHeld ?_
            rotate_left 2
            · simp only [List.getElem?_toArray, List.getElem?_cons_zero, List.getElem?_cons_succ]; with_reducible rfl
            · exact fun _ _ _ h => h
            · rfl
            · intro wS hSw; (try dsimp only at hSw); go_simp <;> with_reducible rfl
            simp only [put_lit, List.set]
            refine wpAnyH_done (by kernel_rfl) ?_ _
            have HEND : Hid (Below w.heap.size w v7) := HB1.out.trans ((HA.out.1.trans (hv7.out.mono HA.out.2)).mono HB1.out.size)
            clear CA CB CD hHeld
            go_wp2
            go_ret
            exact ⟨rfl, HEND.out⟩
end Go.Proofs.Ytmcemhkhgccojaa
