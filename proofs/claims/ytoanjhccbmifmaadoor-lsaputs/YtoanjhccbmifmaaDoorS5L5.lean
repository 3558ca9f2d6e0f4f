/- Whether any advertisement is right, its seal, its bytes, its Key, and whether two have one body: the program's and the document's. -/
import Derived.Test.YtoanjhccbmifmaaDoorS5D7
import Derived.Test.YtoanjhccbmifmaaDoorS5L0
import Derived.Test.YtoanjhccbmifmaaDoorWN
namespace Go.Proofs.YtoanjhccbmifmaaDoor
open Go.RowKit
set_option linter.unusedVariables false

def putZs (l : LsaZ) : List Int := if sealedB l = true then layZ l else []
def putEZ (l : LsaZ) : Int := if sealedB l = true then 0 else 1
theorem putZs_bd (l : LsaZ) : AreBytes (putZs l) := by
  unfold putZs; split
  · exact layZ_bd l
  · intro z hz; cases hz
theorem put_uni {w w' : World} {l : LsaZ} {e : Ending} (h : PutEnd w l e w') : ∃ a n k, e = .returned (.tuple #[.slice a n k, .int .i64 (putEZ l)]) ∧ Bts w' a (putZs l) ∧ n = (putZs l).length ∧ Below w.heap.size w w' := by
  unfold PutEnd at h
  unfold putZs putEZ
  cases hq : sealedB l with
  | true =>
    rw [hq] at h
    obtain ⟨hb, g, cp, h1, h2⟩ := h
    exact ⟨_, _, cp, h1, h2.bts, rfl, hb⟩
  | false =>
    rw [hq] at h
    exact ⟨none, 0, 0, h.2, .inl rfl, rfl, h.1⟩
theorem mid_seal {l : LsaZ} (h : Mid l) : Mid (sealL l) := by
  unfold sealL; split
  · exact ⟨h.hl, h.hr, h.hv⟩
  · exact h
set_option maxHeartbeats 6400000 in
set_option maxRecDepth 40000 in
theorem lsaPuts_walk (s t : Seats) (a b : LsaZ) (w : World) (ha : Held w s a) (na : Nils s) (hb : Held w t b) (hE : Env w) :
    Calls Tryd.prog 3 #[.agg (lsaA s a), .agg (lsaA t b)] w fun e w' => e = .returned (.bool true) ∧ Below w.heap.size w w' := by
  have HX : Hid (Box ((w.alloc (.cells (lsaA s a) 28)).alloc (.cells (lsaA t b) 28)) w.heap.size s a) := (box_new w s a).below ((Below.refl _ _).alloc (Nat.le_refl _) _) (by simp)
  have HY : Hid (Box ((w.alloc (.cells (lsaA s a) 28)).alloc (.cells (lsaA t b) 28)) (w.heap.size + 1) t b) := by
    have := box_new (w.alloc (.cells (lsaA s a) 28)) t b
    rw [size_new] at this; exact this
  have HB : Hid (Below w.heap.size w ((w.alloc (.cells (lsaA s a) 28)).alloc (.cells (lsaA t b) 28))) := (below_new' _ _).alloc (by simp) _
  have HE : Hid (Env w) := hE
  have HA : Hid (Held w s a) := ha
  have HC : Hid (Held w t b) := hb
  have HN : Hid (Nils s) := na
  clear ha hb na hE
  go_enter Tryd.func3, Tryd.ntmps3
  go_upto_region 1 with fail
  generalize (w.alloc (.cells (lsaA s a) 28)).alloc (.cells (lsaA t b) 28) = W at *
  obtain ⟨c0, c1, c2, c3, c4, c5, c6, c7, c8, c9, c10, c11⟩ := HX.out
  obtain ⟨b0, b1, b2, b3, b4, b5, b6, b7, b8, b9, b10, b11⟩ := HY.out
  go_wp2_with fail
  refine (great_any s a _).mono ?_
  rintro e w1 ⟨rfl, hb⟩
  replace HX : Hid (Box w1 w.heap.size s a) := HX.out.below hb HX.out.lt
  replace HY : Hid (Box w1 (w.heap.size + 1) t b) := HY.out.below hb HY.out.lt
  replace HB : Hid (Below w.heap.size w w1) := below_more HB.out hb HB.out.size
  clear hb c0 c1 c2 c3 c4 c5 c6 c7 c8 c9 c10 c11 b0 b1 b2 b3 b4 b5 b6 b7 b8 b9 b10 b11
  cases hg : greatB a with
  | true =>
    go_wp2_with fail
    refine (awake_any _ (HE.out.below HB.out (Nat.le_refl _))).mono ?_
    rintro e wz ⟨rfl, hb⟩
    replace HB : Hid (Below w.heap.size w wz) := below_more HB.out hb HB.out.size
    clear hb
    go_wp2
    go_ret
    exact ⟨rfl, HB.out⟩
  | false =>
  have HMA : Hid (Mid a) := great_mid hg
  clear hg
  obtain ⟨c0, c1, c2, c3, c4, c5, c6, c7, c8, c9, c10, c11⟩ := HX.out
  obtain ⟨b0, b1, b2, b3, b4, b5, b6, b7, b8, b9, b10, b11⟩ := HY.out
  go_wp2_with fail
  refine (great_any t b _).mono ?_
  rintro e w2 ⟨rfl, hb⟩
  replace HX : Hid (Box w2 w.heap.size s a) := HX.out.below hb HX.out.lt
  replace HY : Hid (Box w2 (w.heap.size + 1) t b) := HY.out.below hb HY.out.lt
  replace HB : Hid (Below w.heap.size w w2) := below_more HB.out hb HB.out.size
  clear hb c0 c1 c2 c3 c4 c5 c6 c7 c8 c9 c10 c11 b0 b1 b2 b3 b4 b5 b6 b7 b8 b9 b10 b11
  cases hg : greatB b with
  | true =>
    go_wp2_with fail
    refine (awake_any _ (HE.out.below HB.out (Nat.le_refl _))).mono ?_
    rintro e wz ⟨rfl, hb⟩
    replace HB : Hid (Below w.heap.size w wz) := below_more HB.out hb HB.out.size
    clear hb
    go_wp2
    go_ret
    exact ⟨rfl, HB.out⟩
  | false =>
  have HMB : Hid (Mid b) := great_mid hg
  clear hg
  have HMM : Hid (Mid (sealL a)) := mid_seal HMA.out
  have hse : ∀ X, Held X s a → Calls Tryd.prog 13 #[.agg (lsaA s a)] X (SealEnd X (sealL a)) := fun X h => seal_any s a X h HMA.out HN.out
  have dse : ∀ X, Held X s a → Calls Tryd.prog 14 #[.agg (lsaA s a)] X (SealEnd X (sealL a)) := fun X h => dSeal_any s a X h HMA.out HN.out
  generalize sealL a = M at *
  have pA := fun X hE h => (put_any s a X hE h HMA.out).mono (fun e w' h => put_uni h)
  have qA := fun X h => (dPut_any s a X h HMA.out HN.out).mono (fun e w' h => put_uni h)
  have pM := fun s1 X hE h => (put_any s1 M X hE h HMM.out).mono (fun e w' h => put_uni h)
  have qM := fun s1 X h hn => (dPut_any s1 M X h HMM.out hn).mono (fun e w' h => put_uni h)
  have HZA : Hid (AreBytes (putZs a)) := putZs_bd a
  have HZM : Hid (AreBytes (putZs M)) := putZs_bd M
  generalize putZs a = zx at *
  generalize putZs M = zm at *
  generalize putEZ a = ex at *
  generalize putEZ M = em at *
  obtain ⟨c0, c1, c2, c3, c4, c5, c6, c7, c8, c9, c10, c11⟩ := HX.out
  obtain ⟨b0, b1, b2, b3, b4, b5, b6, b7, b8, b9, b10, b11⟩ := HY.out
  go_wp2_with fail
  refine (pA _ (HE.out.below HB.out (Nat.le_refl _)) (HA.out.below HB.out)).mono ?_
  rintro e w3 ⟨a1, n1, k1, rfl, h1, hn1, hb⟩
  replace HX : Hid (Box w3 w.heap.size s a) := HX.out.below hb HX.out.lt
  replace HY : Hid (Box w3 (w.heap.size + 1) t b) := HY.out.below hb HY.out.lt
  replace HB : Hid (Below w.heap.size w w3) := below_more HB.out hb HB.out.size
  have T1 : Hid (Bts w3 a1 zx) := h1
  have N1 : Hid (n1 = zx.length) := hn1
  clear h1 hn1
  clear hb c0 c1 c2 c3 c4 c5 c6 c7 c8 c9 c10 c11 b0 b1 b2 b3 b4 b5 b6 b7 b8 b9 b10 b11
  obtain ⟨c0, c1, c2, c3, c4, c5, c6, c7, c8, c9, c10, c11⟩ := HX.out
  obtain ⟨b0, b1, b2, b3, b4, b5, b6, b7, b8, b9, b10, b11⟩ := HY.out
  go_wp2_with fail
  refine (qA _ (HA.out.below HB.out)).mono ?_
  rintro e w4 ⟨a2, n2, k2, rfl, h2, hn2, hb⟩
  replace HX : Hid (Box w4 w.heap.size s a) := HX.out.below hb HX.out.lt
  replace HY : Hid (Box w4 (w.heap.size + 1) t b) := HY.out.below hb HY.out.lt
  replace HB : Hid (Below w.heap.size w w4) := below_more HB.out hb HB.out.size
  have T2 : Hid (Bts w4 a2 zx) := h2
  have N2 : Hid (n2 = zx.length) := hn2
  replace T1 : Hid (Bts w4 a1 zx) := T1.out.below hb
  clear h2 hn2
  clear hb c0 c1 c2 c3 c4 c5 c6 c7 c8 c9 c10 c11 b0 b1 b2 b3 b4 b5 b6 b7 b8 b9 b10 b11
  obtain ⟨c0, c1, c2, c3, c4, c5, c6, c7, c8, c9, c10, c11⟩ := HX.out
  obtain ⟨b0, b1, b2, b3, b4, b5, b6, b7, b8, b9, b10, b11⟩ := HY.out
  go_wp2_with fail
  refine (hse _ (HA.out.below HB.out)).mono ?_
  rintro e w5 ⟨s1, rfl, hh, hns, hb⟩
  replace HX : Hid (Box w5 w.heap.size s a) := HX.out.below hb HX.out.lt
  replace HY : Hid (Box w5 (w.heap.size + 1) t b) := HY.out.below hb HY.out.lt
  replace HB : Hid (Below w.heap.size w w5) := below_more HB.out hb HB.out.size
  have HM1 : Hid (Held w5 s1 M) := hh
  have HNS : Hid (Nils s1) := hns
  replace T1 : Hid (Bts w5 a1 zx) := T1.out.below hb
  replace T2 : Hid (Bts w5 a2 zx) := T2.out.below hb
  clear hh hns
  clear hb c0 c1 c2 c3 c4 c5 c6 c7 c8 c9 c10 c11 b0 b1 b2 b3 b4 b5 b6 b7 b8 b9 b10 b11
  have H9 : Hid (Var (w5.alloc (.cells #[.int .i64 M.head.age, .int .i64 M.head.kind, .int .i64 M.head.id, .int .i64 M.head.adv, .int .i64 M.head.seq, .int .i64 M.head.sum, .int .i64 M.head.len, .int .i64 M.flags, .slice s1.la M.links.length s1.lc, .int .i64 M.bits, .slice s1.ra M.routers.length s1.rc, .slice s1.va M.verts.length s1.vc] 28)) w5.heap.size [.int .i64 M.head.age, .int .i64 M.head.kind, .int .i64 M.head.id, .int .i64 M.head.adv, .int .i64 M.head.seq, .int .i64 M.head.sum, .int .i64 M.head.len, .int .i64 M.flags, .slice s1.la M.links.length s1.lc, .int .i64 M.bits, .slice s1.ra M.routers.length s1.rc, .slice s1.va M.verts.length s1.vc]) := var_new w5 [.int .i64 M.head.age, .int .i64 M.head.kind, .int .i64 M.head.id, .int .i64 M.head.adv, .int .i64 M.head.seq, .int .i64 M.head.sum, .int .i64 M.head.len, .int .i64 M.flags, .slice s1.la M.links.length s1.lc, .int .i64 M.bits, .slice s1.ra M.routers.length s1.rc, .slice s1.va M.verts.length s1.vc] _
  have hbn : Below w5.heap.size w5 (w5.alloc (.cells #[.int .i64 M.head.age, .int .i64 M.head.kind, .int .i64 M.head.id, .int .i64 M.head.adv, .int .i64 M.head.seq, .int .i64 M.head.sum, .int .i64 M.head.len, .int .i64 M.flags, .slice s1.la M.links.length s1.lc, .int .i64 M.bits, .slice s1.ra M.routers.length s1.rc, .slice s1.va M.verts.length s1.vc] 28)) := below_new' _ _
  replace HX : Hid (Box (w5.alloc (.cells #[.int .i64 M.head.age, .int .i64 M.head.kind, .int .i64 M.head.id, .int .i64 M.head.adv, .int .i64 M.head.seq, .int .i64 M.head.sum, .int .i64 M.head.len, .int .i64 M.flags, .slice s1.la M.links.length s1.lc, .int .i64 M.bits, .slice s1.ra M.routers.length s1.rc, .slice s1.va M.verts.length s1.vc] 28)) w.heap.size s a) := HX.out.below hbn HX.out.lt
  replace HY : Hid (Box (w5.alloc (.cells #[.int .i64 M.head.age, .int .i64 M.head.kind, .int .i64 M.head.id, .int .i64 M.head.adv, .int .i64 M.head.seq, .int .i64 M.head.sum, .int .i64 M.head.len, .int .i64 M.flags, .slice s1.la M.links.length s1.lc, .int .i64 M.bits, .slice s1.ra M.routers.length s1.rc, .slice s1.va M.verts.length s1.vc] 28)) (w.heap.size + 1) t b) := HY.out.below hbn HY.out.lt
  replace HB : Hid (Below w.heap.size w (w5.alloc (.cells #[.int .i64 M.head.age, .int .i64 M.head.kind, .int .i64 M.head.id, .int .i64 M.head.adv, .int .i64 M.head.seq, .int .i64 M.head.sum, .int .i64 M.head.len, .int .i64 M.flags, .slice s1.la M.links.length s1.lc, .int .i64 M.bits, .slice s1.ra M.routers.length s1.rc, .slice s1.va M.verts.length s1.vc] 28))) := below_more HB.out hbn HB.out.size
  replace HM1 : Hid (Held (w5.alloc (.cells #[.int .i64 M.head.age, .int .i64 M.head.kind, .int .i64 M.head.id, .int .i64 M.head.adv, .int .i64 M.head.seq, .int .i64 M.head.sum, .int .i64 M.head.len, .int .i64 M.flags, .slice s1.la M.links.length s1.lc, .int .i64 M.bits, .slice s1.ra M.routers.length s1.rc, .slice s1.va M.verts.length s1.vc] 28)) s1 M) := HM1.out.below hbn
  replace T1 : Hid (Bts (w5.alloc (.cells #[.int .i64 M.head.age, .int .i64 M.head.kind, .int .i64 M.head.id, .int .i64 M.head.adv, .int .i64 M.head.seq, .int .i64 M.head.sum, .int .i64 M.head.len, .int .i64 M.flags, .slice s1.la M.links.length s1.lc, .int .i64 M.bits, .slice s1.ra M.routers.length s1.rc, .slice s1.va M.verts.length s1.vc] 28)) a1 zx) := T1.out.below hbn
  replace T2 : Hid (Bts (w5.alloc (.cells #[.int .i64 M.head.age, .int .i64 M.head.kind, .int .i64 M.head.id, .int .i64 M.head.adv, .int .i64 M.head.seq, .int .i64 M.head.sum, .int .i64 M.head.len, .int .i64 M.flags, .slice s1.la M.links.length s1.lc, .int .i64 M.bits, .slice s1.ra M.routers.length s1.rc, .slice s1.va M.verts.length s1.vc] 28)) a2 zx) := T2.out.below hbn
  clear hbn
  go_upto_region 6 with fail
  generalize (w5.alloc (.cells #[.int .i64 M.head.age, .int .i64 M.head.kind, .int .i64 M.head.id, .int .i64 M.head.adv, .int .i64 M.head.seq, .int .i64 M.head.sum, .int .i64 M.head.len, .int .i64 M.flags, .slice s1.la M.links.length s1.lc, .int .i64 M.bits, .slice s1.ra M.routers.length s1.rc, .slice s1.va M.verts.length s1.vc] 28)) = U at *
  generalize w5.heap.size = nX at *
  have m0 := H9.out.cell 0 rfl
  have m1 := H9.out.cell 1 rfl
  have m2 := H9.out.cell 2 rfl
  have m3 := H9.out.cell 3 rfl
  have m4 := H9.out.cell 4 rfl
  have m5 := H9.out.cell 5 rfl
  have m6 := H9.out.cell 6 rfl
  have m7 := H9.out.cell 7 rfl
  have m8 := H9.out.cell 8 rfl
  have m9 := H9.out.cell 9 rfl
  have m10 := H9.out.cell 10 rfl
  have m11 := H9.out.cell 11 rfl
  go_wp2_with fail
  refine (pM s1 _ (HE.out.below HB.out (Nat.le_refl _)) HM1.out).mono ?_
  rintro e w6 ⟨a3, n3, k3, rfl, h3, hn3, hb⟩
  replace HX : Hid (Box w6 w.heap.size s a) := HX.out.below hb HX.out.lt
  replace HY : Hid (Box w6 (w.heap.size + 1) t b) := HY.out.below hb HY.out.lt
  replace HB : Hid (Below w.heap.size w w6) := below_more HB.out hb HB.out.size
  replace H9 : Hid (Var w6 nX [.int .i64 M.head.age, .int .i64 M.head.kind, .int .i64 M.head.id, .int .i64 M.head.adv, .int .i64 M.head.seq, .int .i64 M.head.sum, .int .i64 M.head.len, .int .i64 M.flags, .slice s1.la M.links.length s1.lc, .int .i64 M.bits, .slice s1.ra M.routers.length s1.rc, .slice s1.va M.verts.length s1.vc]) := H9.out.below hb H9.out.lt
  replace HM1 : Hid (Held w6 s1 M) := HM1.out.below hb
  replace T1 : Hid (Bts w6 a1 zx) := T1.out.below hb
  replace T2 : Hid (Bts w6 a2 zx) := T2.out.below hb
  have T3 : Hid (Bts w6 a3 zm) := h3
  have N3 : Hid (n3 = zm.length) := hn3
  clear hb h3 hn3 m0 m1 m2 m3 m4 m5 m6 m7 m8 m9 m10 m11
  obtain ⟨c0, c1, c2, c3, c4, c5, c6, c7, c8, c9, c10, c11⟩ := HX.out
  obtain ⟨b0, b1, b2, b3, b4, b5, b6, b7, b8, b9, b10, b11⟩ := HY.out
  go_wp2_with fail
  refine (dse _ (HA.out.below HB.out)).mono ?_
  rintro e w7 ⟨s2, rfl, hh, hns, hb⟩
  replace HX : Hid (Box w7 w.heap.size s a) := HX.out.below hb HX.out.lt
  replace HY : Hid (Box w7 (w.heap.size + 1) t b) := HY.out.below hb HY.out.lt
  replace HB : Hid (Below w.heap.size w w7) := below_more HB.out hb HB.out.size
  replace H9 : Hid (Var w7 nX [.int .i64 M.head.age, .int .i64 M.head.kind, .int .i64 M.head.id, .int .i64 M.head.adv, .int .i64 M.head.seq, .int .i64 M.head.sum, .int .i64 M.head.len, .int .i64 M.flags, .slice s1.la M.links.length s1.lc, .int .i64 M.bits, .slice s1.ra M.routers.length s1.rc, .slice s1.va M.verts.length s1.vc]) := H9.out.below hb H9.out.lt
  replace HM1 : Hid (Held w7 s1 M) := HM1.out.below hb
  replace T1 : Hid (Bts w7 a1 zx) := T1.out.below hb
  replace T2 : Hid (Bts w7 a2 zx) := T2.out.below hb
  replace T3 : Hid (Bts w7 a3 zm) := T3.out.below hb
  have hq2 := qM s2 w7 hh hns
  clear hb hh hns c0 c1 c2 c3 c4 c5 c6 c7 c8 c9 c10 c11 b0 b1 b2 b3 b4 b5 b6 b7 b8 b9 b10 b11
  go_wp2_with fail
  refine hq2.mono ?_
  rintro e V ⟨a4, n4, k4, rfl, h4, hn4, hb⟩
  replace HX : Hid (Box V w.heap.size s a) := HX.out.below hb HX.out.lt
  replace HY : Hid (Box V (w.heap.size + 1) t b) := HY.out.below hb HY.out.lt
  replace HB : Hid (Below w.heap.size w V) := below_more HB.out hb HB.out.size
  replace H9 : Hid (Var V nX [.int .i64 M.head.age, .int .i64 M.head.kind, .int .i64 M.head.id, .int .i64 M.head.adv, .int .i64 M.head.seq, .int .i64 M.head.sum, .int .i64 M.head.len, .int .i64 M.flags, .slice s1.la M.links.length s1.lc, .int .i64 M.bits, .slice s1.ra M.routers.length s1.rc, .slice s1.va M.verts.length s1.vc]) := H9.out.below hb H9.out.lt
  replace HM1 : Hid (Held V s1 M) := HM1.out.below hb
  replace T1 : Hid (Bts V a1 zx) := T1.out.below hb
  replace T2 : Hid (Bts V a2 zx) := T2.out.below hb
  replace T3 : Hid (Bts V a3 zm) := T3.out.below hb
  have T4 : Hid (Bts V a4 zm) := h4
  have N4 : Hid (n4 = zm.length) := hn4
  clear hb h4 hn4 hq2 pA qA pM qM hse
  go_upto_region 8 with fail
  have UP : Hid (∀ X, Below V.heap.size V X → Below w.heap.size w X) := fun X hX => below_more HB.out hX HB.out.size
  have cv1 : Hid (∀ X, Below V.heap.size V X → Sem.run Tryd.prog (convert 31 9 (.slice a1 n1 k1)) X = .ok (.string (strOf zx)) X) := fun X hX => conv_bts X _ _ _ _ N1.out (T1.out.below hX) HZA.out
  have cv2 : Hid (∀ X, Below V.heap.size V X → Sem.run Tryd.prog (convert 31 9 (.slice a2 n2 k2)) X = .ok (.string (strOf zx)) X) := fun X hX => conv_bts X _ _ _ _ N2.out (T2.out.below hX) HZA.out
  have cv3 : Hid (∀ X, Below V.heap.size V X → Sem.run Tryd.prog (convert 31 9 (.slice a3 n3 k3)) X = .ok (.string (strOf zm)) X) := fun X hX => conv_bts X _ _ _ _ N3.out (T3.out.below hX) HZM.out
  have cv4 : Hid (∀ X, Below V.heap.size V X → Sem.run Tryd.prog (convert 31 9 (.slice a4 n4 k4)) X = .ok (.string (strOf zm)) X) := fun X hX => conv_bts X _ _ _ _ N4.out (T4.out.below hX) HZM.out
  generalize strOf zx = sx at *
  generalize strOf zm = sm at *
  have F15 : ∀ X, Below V.heap.size V X → Calls Tryd.prog 15 #[.agg #[.int .i64 a.head.age, .int .i64 a.head.kind, .int .i64 a.head.id, .int .i64 a.head.adv, .int .i64 a.head.seq, .int .i64 a.head.sum, .int .i64 a.head.len, .int .i64 a.flags, .slice s.la a.links.length s.lc, .int .i64 a.bits, .slice s.ra a.routers.length s.rc, .slice s.va a.verts.length s.vc]] X fun e w' => e = .returned (.bool (rightLsaB a)) ∧ Hid (Below V.heap.size V w') := fun X hX => (rightLsa_any s a X (HA.out.below (UP.out X hX)) HMA.out.fits).mono fun e w' ⟨he, hb⟩ => ⟨he, hX.trans (hb.mono hX.size)⟩
  have F16 : ∀ X, Below V.heap.size V X → Calls Tryd.prog 16 #[.agg #[.int .i64 a.head.age, .int .i64 a.head.kind, .int .i64 a.head.id, .int .i64 a.head.adv, .int .i64 a.head.seq, .int .i64 a.head.sum, .int .i64 a.head.len, .int .i64 a.flags, .slice s.la a.links.length s.lc, .int .i64 a.bits, .slice s.ra a.routers.length s.rc, .slice s.va a.verts.length s.vc]] X fun e w' => e = .returned (.bool (rightLsaB a)) ∧ Hid (Below V.heap.size V w') := fun X hX => (rrightLsa_any s a X (HA.out.below (UP.out X hX)) HMA.out.fits).mono fun e w' ⟨he, hb⟩ => ⟨he, hX.trans (hb.mono hX.size)⟩
  have F14 : ∀ X, Below V.heap.size V X → Calls Tryd.prog 14 #[.agg #[.int .i64 a.head.age, .int .i64 a.head.kind, .int .i64 a.head.id, .int .i64 a.head.adv, .int .i64 a.head.seq, .int .i64 a.head.sum, .int .i64 a.head.len, .int .i64 a.flags, .slice s.la a.links.length s.lc, .int .i64 a.bits, .slice s.ra a.routers.length s.rc, .slice s.va a.verts.length s.vc]] X fun e w' => ∃ s3, e = .returned (.agg (lsaA s3 M)) ∧ Hid (Held w' s3 M) ∧ Hid (Below V.heap.size V w') := fun X hX => (dse X (HA.out.below (UP.out X hX))).mono fun e w' ⟨s3, he, hh, _, hb⟩ => ⟨s3, he, hh, hX.trans (hb.mono hX.size)⟩
  have F17 : ∀ s3 X, Below V.heap.size V X → Held X s3 M → Calls Tryd.prog 17 #[.agg #[.int .i64 M.head.age, .int .i64 M.head.kind, .int .i64 M.head.id, .int .i64 M.head.adv, .int .i64 M.head.seq, .int .i64 M.head.sum, .int .i64 M.head.len, .int .i64 M.flags, .slice s1.la M.links.length s1.lc, .int .i64 M.bits, .slice s1.ra M.routers.length s1.rc, .slice s1.va M.verts.length s1.vc], .agg (lsaA s3 M)] X fun e w' => e = .returned (.bool true) ∧ Hid (Below V.heap.size V w') := fun s3 X hX h3 => (dSame_eq s1 s3 M X (HM1.out.below hX) h3 HMM.out.fits).mono fun e w' ⟨he, hb⟩ => ⟨he, hX.trans (hb.mono hX.size)⟩
  have F19 : ∀ X, Below V.heap.size V X → Calls Tryd.prog 19 #[.agg #[.int .i64 a.head.age, .int .i64 a.head.kind, .int .i64 a.head.id, .int .i64 a.head.adv, .int .i64 a.head.seq, .int .i64 a.head.sum, .int .i64 a.head.len, .int .i64 a.flags, .slice s.la a.links.length s.lc, .int .i64 a.bits, .slice s.ra a.routers.length s.rc, .slice s.va a.verts.length s.vc], .agg #[.int .i64 b.head.age, .int .i64 b.head.kind, .int .i64 b.head.id, .int .i64 b.head.adv, .int .i64 b.head.seq, .int .i64 b.head.sum, .int .i64 b.head.len, .int .i64 b.flags, .slice t.la b.links.length t.lc, .int .i64 b.bits, .slice t.ra b.routers.length t.rc, .slice t.va b.verts.length t.vc]] X fun e w' => e = .returned (.bool (bodyB a b)) ∧ Hid (Below V.heap.size V w') := fun X hX => (body_any s t a b X (HA.out.below (UP.out X hX)) (HC.out.below (UP.out X hX)) HMA.out.fits HMB.out.fits).mono fun e w' ⟨he, hb⟩ => ⟨he, hX.trans (hb.mono hX.size)⟩
  have F20 : ∀ X, Below V.heap.size V X → Calls Tryd.prog 20 #[.agg #[.int .i64 a.head.age, .int .i64 a.head.kind, .int .i64 a.head.id, .int .i64 a.head.adv, .int .i64 a.head.seq, .int .i64 a.head.sum, .int .i64 a.head.len, .int .i64 a.flags, .slice s.la a.links.length s.lc, .int .i64 a.bits, .slice s.ra a.routers.length s.rc, .slice s.va a.verts.length s.vc], .agg #[.int .i64 b.head.age, .int .i64 b.head.kind, .int .i64 b.head.id, .int .i64 b.head.adv, .int .i64 b.head.seq, .int .i64 b.head.sum, .int .i64 b.head.len, .int .i64 b.flags, .slice t.la b.links.length t.lc, .int .i64 b.bits, .slice t.ra b.routers.length t.rc, .slice t.va b.verts.length t.vc]] X fun e w' => e = .returned (.bool (bodyB a b)) ∧ Hid (Below V.heap.size V w') := fun X hX => (dBody_any s t a b X (HA.out.below (UP.out X hX)) (HC.out.below (UP.out X hX)) HMA.out.fits HMB.out.fits).mono fun e w' ⟨he, hb⟩ => ⟨he, hX.trans (hb.mono hX.size)⟩
  have hself := bodyB_self a
  have F21 : ∀ X, Below V.heap.size V X → Calls Tryd.prog 19 #[.agg #[.int .i64 a.head.age, .int .i64 a.head.kind, .int .i64 a.head.id, .int .i64 a.head.adv, .int .i64 a.head.seq, .int .i64 a.head.sum, .int .i64 a.head.len, .int .i64 a.flags, .slice s.la a.links.length s.lc, .int .i64 a.bits, .slice s.ra a.routers.length s.rc, .slice s.va a.verts.length s.vc], .agg #[.int .i64 a.head.age, .int .i64 a.head.kind, .int .i64 a.head.id, .int .i64 a.head.adv, .int .i64 a.head.seq, .int .i64 a.head.sum, .int .i64 a.head.len, .int .i64 a.flags, .slice s.la a.links.length s.lc, .int .i64 a.bits, .slice s.ra a.routers.length s.rc, .slice s.va a.verts.length s.vc]] X fun e w' => e = .returned (.bool true) ∧ Hid (Below V.heap.size V w') := fun X hX => (body_any s s a a X (HA.out.below (UP.out X hX)) (HA.out.below (UP.out X hX)) HMA.out.fits HMA.out.fits).mono fun e w' ⟨he, hb⟩ => ⟨by rw [he, hself], hX.trans (hb.mono hX.size)⟩
  clear hself
  have F22 : ∀ X, Below V.heap.size V X → Calls Tryd.prog 21 #[.agg #[.int .i64 a.head.age, .int .i64 a.head.kind, .int .i64 a.head.id, .int .i64 a.head.adv, .int .i64 a.head.seq, .int .i64 a.head.sum, .int .i64 a.head.len]] X fun e w' => e = .returned (.agg #[.int .i64 a.head.kind, .int .i64 a.head.id, .int .i64 a.head.adv]) ∧ Hid (Below V.heap.size V w') := fun X hX => (keyOf_any a.head X).mono fun e w' ⟨he, hb⟩ => ⟨he, hX.trans (hb.mono hX.size)⟩
  have F23 : ∀ X, Below V.heap.size V X → Calls Tryd.prog 22 #[.agg #[.int .i64 a.head.age, .int .i64 a.head.kind, .int .i64 a.head.id, .int .i64 a.head.adv, .int .i64 a.head.seq, .int .i64 a.head.sum, .int .i64 a.head.len]] X fun e w' => e = .returned (.agg #[.int .i64 a.head.kind, .int .i64 a.head.id, .int .i64 a.head.adv]) ∧ Hid (Below V.heap.size V w') := fun X hX => (dkeyOf_any a.head X).mono fun e w' ⟨he, hb⟩ => ⟨he, hX.trans (hb.mono hX.size)⟩
  have F10 : ∀ X, Below V.heap.size V X → Calls Tryd.prog 10 #[] X fun e w' => e = .returned (.bool true) ∧ Hid (Below V.heap.size V w') := fun X hX => (awake_any X (HE.out.below (UP.out X hX) (Nat.le_refl _))).mono fun e w' ⟨he, hb⟩ => ⟨he, hX.trans (hb.mono hX.size)⟩
  generalize rightLsaB a = R at *
  generalize bodyB a b = B at *
  have keepS : Hid (∀ X, Below V.heap.size V X → X.cell? ⟨w.heap.size, 0, none⟩ = some (.int .i64 a.head.age) ∧ X.cell? ⟨w.heap.size, 1, none⟩ = some (.int .i64 a.head.kind) ∧ X.cell? ⟨w.heap.size, 2, none⟩ = some (.int .i64 a.head.id) ∧ X.cell? ⟨w.heap.size, 3, none⟩ = some (.int .i64 a.head.adv) ∧ X.cell? ⟨w.heap.size, 4, none⟩ = some (.int .i64 a.head.seq) ∧ X.cell? ⟨w.heap.size, 5, none⟩ = some (.int .i64 a.head.sum) ∧ X.cell? ⟨w.heap.size, 6, none⟩ = some (.int .i64 a.head.len) ∧ X.cell? ⟨w.heap.size, 7, none⟩ = some (.int .i64 a.flags) ∧ X.cell? ⟨w.heap.size, 8, none⟩ = some (.slice s.la a.links.length s.lc) ∧ X.cell? ⟨w.heap.size, 9, none⟩ = some (.int .i64 a.bits) ∧ X.cell? ⟨w.heap.size, 10, none⟩ = some (.slice s.ra a.routers.length s.rc) ∧ X.cell? ⟨w.heap.size, 11, none⟩ = some (.slice s.va a.verts.length s.vc) ∧ X.cell? ⟨w.heap.size + 1, 0, none⟩ = some (.int .i64 b.head.age) ∧ X.cell? ⟨w.heap.size + 1, 1, none⟩ = some (.int .i64 b.head.kind) ∧ X.cell? ⟨w.heap.size + 1, 2, none⟩ = some (.int .i64 b.head.id) ∧ X.cell? ⟨w.heap.size + 1, 3, none⟩ = some (.int .i64 b.head.adv) ∧ X.cell? ⟨w.heap.size + 1, 4, none⟩ = some (.int .i64 b.head.seq) ∧ X.cell? ⟨w.heap.size + 1, 5, none⟩ = some (.int .i64 b.head.sum) ∧ X.cell? ⟨w.heap.size + 1, 6, none⟩ = some (.int .i64 b.head.len) ∧ X.cell? ⟨w.heap.size + 1, 7, none⟩ = some (.int .i64 b.flags) ∧ X.cell? ⟨w.heap.size + 1, 8, none⟩ = some (.slice t.la b.links.length t.lc) ∧ X.cell? ⟨w.heap.size + 1, 9, none⟩ = some (.int .i64 b.bits) ∧ X.cell? ⟨w.heap.size + 1, 10, none⟩ = some (.slice t.ra b.routers.length t.rc) ∧ X.cell? ⟨w.heap.size + 1, 11, none⟩ = some (.slice t.va b.verts.length t.vc) ∧ X.cell? ⟨nX, 0, none⟩ = some (.int .i64 M.head.age) ∧ X.cell? ⟨nX, 1, none⟩ = some (.int .i64 M.head.kind) ∧ X.cell? ⟨nX, 2, none⟩ = some (.int .i64 M.head.id) ∧ X.cell? ⟨nX, 3, none⟩ = some (.int .i64 M.head.adv) ∧ X.cell? ⟨nX, 4, none⟩ = some (.int .i64 M.head.seq) ∧ X.cell? ⟨nX, 5, none⟩ = some (.int .i64 M.head.sum) ∧ X.cell? ⟨nX, 6, none⟩ = some (.int .i64 M.head.len) ∧ X.cell? ⟨nX, 7, none⟩ = some (.int .i64 M.flags) ∧ X.cell? ⟨nX, 8, none⟩ = some (.slice s1.la M.links.length s1.lc) ∧ X.cell? ⟨nX, 9, none⟩ = some (.int .i64 M.bits) ∧ X.cell? ⟨nX, 10, none⟩ = some (.slice s1.ra M.routers.length s1.rc) ∧ X.cell? ⟨nX, 11, none⟩ = some (.slice s1.va M.verts.length s1.vc) ∧ Sem.run Tryd.prog (convert 31 9 (.slice a1 n1 k1)) X = .ok (.string sx) X ∧ Sem.run Tryd.prog (convert 31 9 (.slice a2 n2 k2)) X = .ok (.string sx) X ∧ Sem.run Tryd.prog (convert 31 9 (.slice a3 n3 k3)) X = .ok (.string sm) X ∧ Sem.run Tryd.prog (convert 31 9 (.slice a4 n4 k4)) X = .ok (.string sm) X ∧ Hid (Below V.heap.size V X)) := fun X hX => by
    obtain ⟨c0, c1, c2, c3, c4, c5, c6, c7, c8, c9, c10, c11⟩ := HX.out.below hX HX.out.lt
    obtain ⟨b0, b1, b2, b3, b4, b5, b6, b7, b8, b9, b10, b11⟩ := HY.out.below hX HY.out.lt
    have k9 := H9.out.below hX H9.out.lt
    exact ⟨c0, c1, c2, c3, c4, c5, c6, c7, c8, c9, c10, c11, b0, b1, b2, b3, b4, b5, b6, b7, b8, b9, b10, b11, k9.cell 0 rfl, k9.cell 1 rfl, k9.cell 2 rfl, k9.cell 3 rfl, k9.cell 4 rfl, k9.cell 5 rfl, k9.cell 6 rfl, k9.cell 7 rfl, k9.cell 8 rfl, k9.cell 9 rfl, k9.cell 10 rfl, k9.cell 11 rfl, cv1.out X hX, cv2.out X hX, cv3.out X hX, cv4.out X hX, hX⟩
  have hVd : Hid (Below V.heap.size V V.drew) := (Below.refl _ _).drew
  clear cv1 cv2 cv3 cv4 HX HY H9 T1 T2 T3 T4 N1 N2 N3 N4 HZA HZM dse UP HM1 HMA HMB HMM HN
  have hRR : (R == R) = true := by cases R <;> rfl
  have hBB : (B == B) = true := by cases B <;> rfl
  all_goals
    go_region_held3 (fun X => X.cell? ⟨w.heap.size, 0, none⟩ = some (.int .i64 a.head.age) ∧ X.cell? ⟨w.heap.size, 1, none⟩ = some (.int .i64 a.head.kind) ∧ X.cell? ⟨w.heap.size, 2, none⟩ = some (.int .i64 a.head.id) ∧ X.cell? ⟨w.heap.size, 3, none⟩ = some (.int .i64 a.head.adv) ∧ X.cell? ⟨w.heap.size, 4, none⟩ = some (.int .i64 a.head.seq) ∧ X.cell? ⟨w.heap.size, 5, none⟩ = some (.int .i64 a.head.sum) ∧ X.cell? ⟨w.heap.size, 6, none⟩ = some (.int .i64 a.head.len) ∧ X.cell? ⟨w.heap.size, 7, none⟩ = some (.int .i64 a.flags) ∧ X.cell? ⟨w.heap.size, 8, none⟩ = some (.slice s.la a.links.length s.lc) ∧ X.cell? ⟨w.heap.size, 9, none⟩ = some (.int .i64 a.bits) ∧ X.cell? ⟨w.heap.size, 10, none⟩ = some (.slice s.ra a.routers.length s.rc) ∧ X.cell? ⟨w.heap.size, 11, none⟩ = some (.slice s.va a.verts.length s.vc) ∧ X.cell? ⟨w.heap.size + 1, 0, none⟩ = some (.int .i64 b.head.age) ∧ X.cell? ⟨w.heap.size + 1, 1, none⟩ = some (.int .i64 b.head.kind) ∧ X.cell? ⟨w.heap.size + 1, 2, none⟩ = some (.int .i64 b.head.id) ∧ X.cell? ⟨w.heap.size + 1, 3, none⟩ = some (.int .i64 b.head.adv) ∧ X.cell? ⟨w.heap.size + 1, 4, none⟩ = some (.int .i64 b.head.seq) ∧ X.cell? ⟨w.heap.size + 1, 5, none⟩ = some (.int .i64 b.head.sum) ∧ X.cell? ⟨w.heap.size + 1, 6, none⟩ = some (.int .i64 b.head.len) ∧ X.cell? ⟨w.heap.size + 1, 7, none⟩ = some (.int .i64 b.flags) ∧ X.cell? ⟨w.heap.size + 1, 8, none⟩ = some (.slice t.la b.links.length t.lc) ∧ X.cell? ⟨w.heap.size + 1, 9, none⟩ = some (.int .i64 b.bits) ∧ X.cell? ⟨w.heap.size + 1, 10, none⟩ = some (.slice t.ra b.routers.length t.rc) ∧ X.cell? ⟨w.heap.size + 1, 11, none⟩ = some (.slice t.va b.verts.length t.vc) ∧ X.cell? ⟨nX, 0, none⟩ = some (.int .i64 M.head.age) ∧ X.cell? ⟨nX, 1, none⟩ = some (.int .i64 M.head.kind) ∧ X.cell? ⟨nX, 2, none⟩ = some (.int .i64 M.head.id) ∧ X.cell? ⟨nX, 3, none⟩ = some (.int .i64 M.head.adv) ∧ X.cell? ⟨nX, 4, none⟩ = some (.int .i64 M.head.seq) ∧ X.cell? ⟨nX, 5, none⟩ = some (.int .i64 M.head.sum) ∧ X.cell? ⟨nX, 6, none⟩ = some (.int .i64 M.head.len) ∧ X.cell? ⟨nX, 7, none⟩ = some (.int .i64 M.flags) ∧ X.cell? ⟨nX, 8, none⟩ = some (.slice s1.la M.links.length s1.lc) ∧ X.cell? ⟨nX, 9, none⟩ = some (.int .i64 M.bits) ∧ X.cell? ⟨nX, 10, none⟩ = some (.slice s1.ra M.routers.length s1.rc) ∧ X.cell? ⟨nX, 11, none⟩ = some (.slice s1.va M.verts.length s1.vc) ∧ Sem.run Tryd.prog (convert 31 9 (.slice a1 n1 k1)) X = .ok (.string sx) X ∧ Sem.run Tryd.prog (convert 31 9 (.slice a2 n2 k2)) X = .ok (.string sx) X ∧ Sem.run Tryd.prog (convert 31 9 (.slice a3 n3 k3)) X = .ok (.string sm) X ∧ Sem.run Tryd.prog (convert 31 9 (.slice a4 n4 k4)) X = .ok (.string sm) X ∧ Hid (Below V.heap.size V X)) (with_reducible first | exact keepS.out _ hVd.out | exact keepS.out _ hk1.out | exact keepS.out _ hk2.out | exact keepS.out _ hk3.out | exact keepS.out _ hk4.out | exact keepS.out _ hk5.out | exact keepS.out _ hk6.out | exact keepS.out _ hk7.out | exact keepS.out _ hk8.out | exact keepS.out _ hk9.out | exact keepS.out _ hk10.out | assumption)
      (first | (go_at_call 18; refine (num_any _ _).mono ?_; rintro e w' ⟨rfl, rfl⟩) | (go_at_call 15; refine (F15 _ (by go_split_ands; exact Hid.out (by assumption))).mono ?_; rintro e v1 ⟨rfl, hk1⟩) | (go_at_call 16; refine (F16 _ (by go_split_ands; exact Hid.out (by assumption))).mono ?_; rintro e v2 ⟨rfl, hk2⟩) | (go_at_call 14; refine (F14 _ (by go_split_ands; exact Hid.out (by assumption))).mono ?_; rintro e v3 ⟨s3, rfl, hhd, hk3⟩) | (go_at_call 17; refine (F17 s3 _ (by go_split_ands; exact Hid.out (by assumption)) hhd.out).mono ?_; rintro e v4 ⟨rfl, hk4⟩) | (go_at_call_of 19 (Value.int IntKind.i64 b.flags); refine (F19 _ (by go_split_ands; exact Hid.out (by assumption))).mono ?_; rintro e v5 ⟨rfl, hk5⟩) | (go_at_call 19; refine (F21 _ (by go_split_ands; exact Hid.out (by assumption))).mono ?_; rintro e v7 ⟨rfl, hk7⟩) | (go_at_call 20; refine (F20 _ (by go_split_ands; exact Hid.out (by assumption))).mono ?_; rintro e v6 ⟨rfl, hk6⟩) | (go_at_call 21; refine (F22 _ (by go_split_ands; exact Hid.out (by assumption))).mono ?_; rintro e v8 ⟨rfl, hk8⟩) | (go_at_call 22; refine (F23 _ (by go_split_ands; exact Hid.out (by assumption))).mono ?_; rintro e v9 ⟨rfl, hk9⟩) | (go_at_call 10; refine (F10 _ (by go_split_ands; exact Hid.out (by assumption))).mono ?_; rintro e v10 ⟨rfl, hk10⟩))
    rename_i hH
    have HRR : Hid (Below w.heap.size w v10) := below_more HB.out hk10.out HB.out.size
    clear hH keepS F10 F14 F15 F16 F17 F19 F20 F21 F22 F23
    go_wp2
    go_ret
    exact ⟨rfl, HRR.out⟩
end Go.Proofs.YtoanjhccbmifmaaDoor
