/- The document's Put: what is refused; what is put in its place. -/
import Derived.Test.YtmcemhkhgccojaaD8A
import Derived.Test.YtmcemhkhgccojaaS5DS
import Derived.Test.YtmcemhkhgccojaaS7W3
namespace Go.Proofs.Ytmcemhkhgccojaa
open Go.RowKit
set_option linter.unusedVariables false

set_option maxHeartbeats 3200000 in
set_option maxRecDepth 20000 in
theorem dput_bad (N b : Nat) (most : Int) (lv : Value) (L : List Row) (s : Seats) (l : LsaZ) (w : World) (h : Keeps w N b most lv L) (hH : Held w s l) (hf : Mid l) (hN : Nils s) (hs : sealedB l = false) :
    Calls Try.prog 12 #[.pointer (some ⟨b, 0, none⟩), .agg (lsaA s l)] w fun e w' => e = .returned (.int .i64 1) ∧ Below w.heap.size w w' := by
  have HB : Hid (Below w.heap.size w (w.alloc (.cells (lsaA s l) 39))) := below_new' _ _
  have HK : Hid (Keeps w N b most lv L) := h
  have HX : Hid (Box (w.alloc (.cells (lsaA s l) 39)) w.heap.size s l) := box_new w s l
  have HH : Hid (Held w s l) := hH
  have HMI : Hid (Mid l) := hf
  have HNI : Hid (Nils s) := hN
  have HSE : Hid (sealedB l = false) := hs
  clear hs h hH hf hN HK
  go_enter Try.func12, Try.ntmps12
  go_upto_region 1 with fail
  generalize w.alloc (.cells (lsaA s l) 39) = W at *
  obtain ⟨c0, c1, c2, c3, c4, c5, c6, c7, c8, c9, c10, c11⟩ := HX.out
  go_wp2_with fail
  refine (dSealed_any s l _ (HH.out.below HB.out) HMI.out HNI.out).mono ?_
  rintro e w1 ⟨rfl, hb⟩
  rw [HSE.out]
  have HB1 : Hid (Below w.heap.size w w1) := below_more HB.out hb HB.out.size
  clear hb HX c0 c1 c2 c3 c4 c5 c6 c7 c8 c9 c10 c11
  go_wp2
  go_ret
  exact ⟨rfl, HB1.out⟩
set_option maxHeartbeats 3200000 in
set_option maxRecDepth 20000 in
theorem dput_old (N b : Nat) (most : Int) (lv : Value) (L : List Row) (s : Seats) (l : LsaZ) (w : World) (h : Keeps w N b most lv L) (hH : Held w s l) (hf : Mid l) (hN : Nils s) (p : Nat) (r : Row) (hpo : posZ L (keyZ l.head) = p) (hr : L[p]? = some r) (hk : rk r = keyZ l.head) (hs : sealedB l = true) (hc : 0 < newI r.2.head.age r.2.head.seq r.2.head.sum l.head.age l.head.seq l.head.sum) :
    Calls Try.prog 12 #[.pointer (some ⟨b, 0, none⟩), .agg (lsaA s l)] w fun e w' => e = .returned (.int .i64 9) ∧ Below w.heap.size w w' := by
  have HB : Hid (Below w.heap.size w (w.alloc (.cells (lsaA s l) 39))) := below_new' _ _
  have HK : Hid (Keeps w N b most lv L) := h
  have HX : Hid (Box (w.alloc (.cells (lsaA s l) 39)) w.heap.size s l) := box_new w s l
  have HH : Hid (Held w s l) := hH
  have HMI : Hid (Mid l) := hf
  have HNI : Hid (Nils s) := hN
  have HC : Hid (0 < newI r.2.head.age r.2.head.seq r.2.head.sum l.head.age l.head.seq l.head.sum) := hc
  clear hc
  have HSE : Hid (sealedB l = true) := hs
  obtain ⟨hp, hr'⟩ := List.getElem?_eq_some_iff.1 hr
  have HAT : Hid (atZ L (keyZ l.head) = (p : Int)) := atZ_here h.rising p hp (by rw [hr']; exact hk)
  obtain ⟨g, c, rfl, hLc, hgb, hNg, hrow, -⟩ := h.at p hp
  rw [hr'] at hrow
  have HRow : Hid (RowAt w g (p * 12) r) := hrow
  have HMEM : Hid (r ∈ L) := by show r ∈ L; rw [← hr']; exact List.getElem_mem hp
  have HIr : Hid (In64 r.2.head.age) := by
    have := sealed_age (h.shut _ HMEM.out)
    show In64 _; unfold In64; omega
  have HIl : Hid (In64 l.head.age) := by
    have := sealed_age hs
    show In64 _; unfold In64; omega
  have HRr : Hid (L[p]? = some r) := hr
  have HKr : Hid (rk r = keyZ l.head) := hk
  have hlen : L.length ≤ 1000000 := h.len
  have hlc : (L.length : Int) ≤ (c : Int) := by omega
  have hpI : (p : Int) < (L.length : Int) := by omega
  have hp0 : (0 : Int) ≤ (p : Int) := by omega
  clear hs hk hr hr' hrow hpo hLc hgb hNg
  clear h hH hf hN
  go_enter Try.func12, Try.ntmps12
  go_upto_region 1 with fail
  generalize w.alloc (.cells (lsaA s l) 39) = W at *
  obtain ⟨c0, c1, c2, c3, c4, c5, c6, c7, c8, c9, c10, c11⟩ := HX.out
  go_wp2_with fail
  refine (dSealed_any s l _ (HH.out.below HB.out) HMI.out HNI.out).mono ?_
  rintro e w1 ⟨rfl, hb⟩
  rw [HSE.out]
  have HX1 : Hid (Box w1 w.heap.size s l) := HX.out.below hb HX.out.lt
  replace HB : Hid (Below w.heap.size w w1) := below_more HB.out hb HB.out.size
  clear hb HX c0 c1 c2 c3 c4 c5 c6 c7 c8 c9 c10 c11
  obtain ⟨c0, c1, c2, c3, c4, c5, c6, c7, c8, c9, c10, c11⟩ := HX1.out
  go_wp2_with fail
  refine (dkeyOf_any l.head _).mono ?_
  rintro e w2 ⟨rfl, hb⟩
  have HX2 : Hid (Box w2 w.heap.size s l) := HX1.out.below hb HX1.out.lt
  replace HB : Hid (Below w.heap.size w w2) := below_more HB.out hb HB.out.size
  clear hb HX1 c0 c1 c2 c3 c4 c5 c6 c7 c8 c9 c10 c11
  have HV : Hid (Var (w2.alloc (.cells #[.int .i64 l.head.kind, .int .i64 l.head.id, .int .i64 l.head.adv] 41)) w2.heap.size [.int .i64 l.head.kind, .int .i64 l.head.id, .int .i64 l.head.adv]) := var_new w2 [.int .i64 l.head.kind, .int .i64 l.head.id, .int .i64 l.head.adv] _
  have HX3 : Hid (Box (w2.alloc (.cells #[.int .i64 l.head.kind, .int .i64 l.head.id, .int .i64 l.head.adv] 41)) w.heap.size s l) := HX2.out.below (below_new' _ _) HX2.out.lt
  replace HB : Hid (Below w.heap.size w (w2.alloc (.cells #[.int .i64 l.head.kind, .int .i64 l.head.id, .int .i64 l.head.adv] 41))) := HB.out.alloc HB.out.size _
  clear HX2
  go_upto_region 4 with fail
  obtain ⟨kb, hkb⟩ : ∃ kb, w2.heap.size = kb := ⟨_, rfl⟩
  rw [hkb] at HV ⊢
  generalize w2.alloc (.cells #[.int .i64 l.head.kind, .int .i64 l.head.id, .int .i64 l.head.adv] 41) = W3 at *
  clear hkb
  have d0 := HV.out.cell 0 rfl
  have d1 := HV.out.cell 1 rfl
  have d2 := HV.out.cell 2 rfl
  have CA := at_any N b most _ L (keyZ l.head) W3 (HK.out.below HB.out)
  rw [HAT.out] at CA
  go_wp2_with fail
  refine CA.mono ?_
  rintro e w3 ⟨rfl, hb⟩
  replace HV : Hid (Var w3 kb [.int .i64 l.head.kind, .int .i64 l.head.id, .int .i64 l.head.adv]) := HV.out.below hb HV.out.lt
  replace HX3 : Hid (Box w3 w.heap.size s l) := HX3.out.below hb HX3.out.lt
  replace HB : Hid (Below w.heap.size w w3) := below_more HB.out hb HB.out.size
  clear hb CA d0 d1 d2
  have keepS : Hid (∀ X, Below w3.heap.size w3 X → X.cell? ⟨b, 1, none⟩ = some (.slice (some ⟨g, 0, none⟩) L.length c) ∧ X.cell? ⟨g, p * 12, none⟩ = some (.int .i64 r.2.head.age) ∧ X.cell? ⟨g, p * 12 + 1, none⟩ = some (.int .i64 r.2.head.kind) ∧ X.cell? ⟨g, p * 12 + 2, none⟩ = some (.int .i64 r.2.head.id) ∧ X.cell? ⟨g, p * 12 + 3, none⟩ = some (.int .i64 r.2.head.adv) ∧ X.cell? ⟨g, p * 12 + 4, none⟩ = some (.int .i64 r.2.head.seq) ∧ X.cell? ⟨g, p * 12 + 5, none⟩ = some (.int .i64 r.2.head.sum) ∧ X.cell? ⟨g, p * 12 + 6, none⟩ = some (.int .i64 r.2.head.len) ∧ X.cell? ⟨w.heap.size, 0, none⟩ = some (.int .i64 l.head.age) ∧ X.cell? ⟨w.heap.size, 1, none⟩ = some (.int .i64 l.head.kind) ∧ X.cell? ⟨w.heap.size, 2, none⟩ = some (.int .i64 l.head.id) ∧ X.cell? ⟨w.heap.size, 3, none⟩ = some (.int .i64 l.head.adv) ∧ X.cell? ⟨w.heap.size, 4, none⟩ = some (.int .i64 l.head.seq) ∧ X.cell? ⟨w.heap.size, 5, none⟩ = some (.int .i64 l.head.sum) ∧ X.cell? ⟨w.heap.size, 6, none⟩ = some (.int .i64 l.head.len)) := by
    intro X hX
    have HBX : Below w.heap.size w X := below_more HB.out hX HB.out.size
    have h1 := (HK.out.below HBX).obj
    obtain ⟨c0, c1, c2, c3, c4, c5, c6, -, -, -, -, -⟩ := HRow.out.below HBX HRow.out.lt
    obtain ⟨d0, d1, d2, d3, d4, d5, d6, -, -, -, -, -⟩ := HX3.out.below hX HX3.out.lt
    exact ⟨h1.cell 1 rfl, c0, c1, c2, c3, c4, c5, c6, d0, d1, d2, d3, d4, d5, d6⟩
  have hS := keepS.out _ (Below.refl _ _).drew
  have CC : Calls _ _ _ _ _ := (rcmp_i r.2.head.age r.2.head.kind r.2.head.id r.2.head.adv r.2.head.seq r.2.head.sum r.2.head.len l.head.age l.head.kind l.head.id l.head.adv l.head.seq l.head.sum l.head.len w3.drew HIr.out HIl.out).mono (R' := fun e w' => e = .returned (.int .i64 (newI r.2.head.age r.2.head.seq r.2.head.sum l.head.age l.head.seq l.head.sum)) ∧ Below w3.heap.size w3 w') fun e w' h => ⟨h.1, ((Below.refl _ _).drew).trans h.2⟩
  generalize newI r.2.head.age r.2.head.seq r.2.head.sum l.head.age l.head.seq l.head.sum = V at *
  have hV := HC.out
  go_upto_region 6 with fail
  go_region_held3 (fun X => X.cell? ⟨b, 1, none⟩ = some (.slice (some ⟨g, 0, none⟩) L.length c) ∧ X.cell? ⟨g, p * 12, none⟩ = some (.int .i64 r.2.head.age) ∧ X.cell? ⟨g, p * 12 + 1, none⟩ = some (.int .i64 r.2.head.kind) ∧ X.cell? ⟨g, p * 12 + 2, none⟩ = some (.int .i64 r.2.head.id) ∧ X.cell? ⟨g, p * 12 + 3, none⟩ = some (.int .i64 r.2.head.adv) ∧ X.cell? ⟨g, p * 12 + 4, none⟩ = some (.int .i64 r.2.head.seq) ∧ X.cell? ⟨g, p * 12 + 5, none⟩ = some (.int .i64 r.2.head.sum) ∧ X.cell? ⟨g, p * 12 + 6, none⟩ = some (.int .i64 r.2.head.len) ∧ X.cell? ⟨w.heap.size, 0, none⟩ = some (.int .i64 l.head.age) ∧ X.cell? ⟨w.heap.size, 1, none⟩ = some (.int .i64 l.head.kind) ∧ X.cell? ⟨w.heap.size, 2, none⟩ = some (.int .i64 l.head.id) ∧ X.cell? ⟨w.heap.size, 3, none⟩ = some (.int .i64 l.head.adv) ∧ X.cell? ⟨w.heap.size, 4, none⟩ = some (.int .i64 l.head.seq) ∧ X.cell? ⟨w.heap.size, 5, none⟩ = some (.int .i64 l.head.sum) ∧ X.cell? ⟨w.heap.size, 6, none⟩ = some (.int .i64 l.head.len)) (with_reducible first | exact hS | exact keepS.out _ hk | assumption | fail) (first | (go_at_call 38; refine CC.mono ?_; rintro e w4 ⟨rfl, hk⟩))
  rename_i hSx
  have HX4 : Hid (Box w4 w.heap.size s l) := HX3.out.below hk HX3.out.lt
  replace HB : Hid (Below w.heap.size w w4) := below_more HB.out hk HB.out.size
  clear hk CC hS hSx keepS HX3
  go_wp2
  go_ret
  exact ⟨rfl, HB.out⟩
set_option maxHeartbeats 3200000 in
set_option maxRecDepth 20000 in
theorem dput_set (N b : Nat) (most : Int) (lv : Value) (L : List Row) (s : Seats) (l : LsaZ) (w : World) (h : Keeps w N b most lv L) (hH : Held w s l) (hf : Mid l) (hN : Nils s) (p : Nat) (r : Row) (hpo : posZ L (keyZ l.head) = p) (hr : L[p]? = some r) (hk : rk r = keyZ l.head) (hs : sealedB l = true) (hc : ¬ 0 < newI r.2.head.age r.2.head.seq r.2.head.sum l.head.age l.head.seq l.head.sum) :
    Calls Try.prog 12 #[.pointer (some ⟨b, 0, none⟩), .agg (lsaA s l)] w (PutIn w N b most lv L p l) := by
  have HB : Hid (Below w.heap.size w (w.alloc (.cells (lsaA s l) 39))) := below_new' _ _
  have HK : Hid (Keeps w N b most lv L) := h
  have HX : Hid (Box (w.alloc (.cells (lsaA s l) 39)) w.heap.size s l) := box_new w s l
  have HH : Hid (Held w s l) := hH
  have HMI : Hid (Mid l) := hf
  have HNI : Hid (Nils s) := hN
  have HC : Hid (¬ 0 < newI r.2.head.age r.2.head.seq r.2.head.sum l.head.age l.head.seq l.head.sum) := hc
  clear hc
  have HSE : Hid (sealedB l = true) := hs
  obtain ⟨hp, hr'⟩ := List.getElem?_eq_some_iff.1 hr
  have HAT : Hid (atZ L (keyZ l.head) = (p : Int)) := atZ_here h.rising p hp (by rw [hr']; exact hk)
  obtain ⟨g, c, rfl, hLc, hgb, hNg, hrow, -⟩ := h.at p hp
  rw [hr'] at hrow
  have HRow : Hid (RowAt w g (p * 12) r) := hrow
  have HMEM : Hid (r ∈ L) := by show r ∈ L; rw [← hr']; exact List.getElem_mem hp
  have HIr : Hid (In64 r.2.head.age) := by
    have := sealed_age (h.shut _ HMEM.out)
    show In64 _; unfold In64; omega
  have HIl : Hid (In64 l.head.age) := by
    have := sealed_age hs
    show In64 _; unfold In64; omega
  have HRr : Hid (L[p]? = some r) := hr
  have HKr : Hid (rk r = keyZ l.head) := hk
  have hlen : L.length ≤ 1000000 := h.len
  have hlc : (L.length : Int) ≤ (c : Int) := by omega
  have hpI : (p : Int) < (L.length : Int) := by omega
  have hp0 : (0 : Int) ≤ (p : Int) := by omega
  clear hs hk hr hr' hrow hpo hLc hgb hNg
  clear h hH hf hN
  go_enter Try.func12, Try.ntmps12
  go_upto_region 1 with fail
  generalize w.alloc (.cells (lsaA s l) 39) = W at *
  obtain ⟨c0, c1, c2, c3, c4, c5, c6, c7, c8, c9, c10, c11⟩ := HX.out
  go_wp2_with fail
  refine (dSealed_any s l _ (HH.out.below HB.out) HMI.out HNI.out).mono ?_
  rintro e w1 ⟨rfl, hb⟩
  rw [HSE.out]
  have HX1 : Hid (Box w1 w.heap.size s l) := HX.out.below hb HX.out.lt
  replace HB : Hid (Below w.heap.size w w1) := below_more HB.out hb HB.out.size
  clear hb HX c0 c1 c2 c3 c4 c5 c6 c7 c8 c9 c10 c11
  obtain ⟨c0, c1, c2, c3, c4, c5, c6, c7, c8, c9, c10, c11⟩ := HX1.out
  go_wp2_with fail
  refine (dkeyOf_any l.head _).mono ?_
  rintro e w2 ⟨rfl, hb⟩
  have HX2 : Hid (Box w2 w.heap.size s l) := HX1.out.below hb HX1.out.lt
  replace HB : Hid (Below w.heap.size w w2) := below_more HB.out hb HB.out.size
  clear hb HX1 c0 c1 c2 c3 c4 c5 c6 c7 c8 c9 c10 c11
  have HV : Hid (Var (w2.alloc (.cells #[.int .i64 l.head.kind, .int .i64 l.head.id, .int .i64 l.head.adv] 41)) w2.heap.size [.int .i64 l.head.kind, .int .i64 l.head.id, .int .i64 l.head.adv]) := var_new w2 [.int .i64 l.head.kind, .int .i64 l.head.id, .int .i64 l.head.adv] _
  have HX3 : Hid (Box (w2.alloc (.cells #[.int .i64 l.head.kind, .int .i64 l.head.id, .int .i64 l.head.adv] 41)) w.heap.size s l) := HX2.out.below (below_new' _ _) HX2.out.lt
  replace HB : Hid (Below w.heap.size w (w2.alloc (.cells #[.int .i64 l.head.kind, .int .i64 l.head.id, .int .i64 l.head.adv] 41))) := HB.out.alloc HB.out.size _
  clear HX2
  go_upto_region 4 with fail
  obtain ⟨kb, hkb⟩ : ∃ kb, w2.heap.size = kb := ⟨_, rfl⟩
  rw [hkb] at HV ⊢
  generalize w2.alloc (.cells #[.int .i64 l.head.kind, .int .i64 l.head.id, .int .i64 l.head.adv] 41) = W3 at *
  clear hkb
  have d0 := HV.out.cell 0 rfl
  have d1 := HV.out.cell 1 rfl
  have d2 := HV.out.cell 2 rfl
  have CA := at_any N b most _ L (keyZ l.head) W3 (HK.out.below HB.out)
  rw [HAT.out] at CA
  go_wp2_with fail
  refine CA.mono ?_
  rintro e w3 ⟨rfl, hb⟩
  replace HV : Hid (Var w3 kb [.int .i64 l.head.kind, .int .i64 l.head.id, .int .i64 l.head.adv]) := HV.out.below hb HV.out.lt
  replace HX3 : Hid (Box w3 w.heap.size s l) := HX3.out.below hb HX3.out.lt
  replace HB : Hid (Below w.heap.size w w3) := below_more HB.out hb HB.out.size
  clear hb CA d0 d1 d2
  have keepS : Hid (∀ X, Below w3.heap.size w3 X → X.cell? ⟨b, 1, none⟩ = some (.slice (some ⟨g, 0, none⟩) L.length c) ∧ X.cell? ⟨g, p * 12, none⟩ = some (.int .i64 r.2.head.age) ∧ X.cell? ⟨g, p * 12 + 1, none⟩ = some (.int .i64 r.2.head.kind) ∧ X.cell? ⟨g, p * 12 + 2, none⟩ = some (.int .i64 r.2.head.id) ∧ X.cell? ⟨g, p * 12 + 3, none⟩ = some (.int .i64 r.2.head.adv) ∧ X.cell? ⟨g, p * 12 + 4, none⟩ = some (.int .i64 r.2.head.seq) ∧ X.cell? ⟨g, p * 12 + 5, none⟩ = some (.int .i64 r.2.head.sum) ∧ X.cell? ⟨g, p * 12 + 6, none⟩ = some (.int .i64 r.2.head.len) ∧ X.cell? ⟨w.heap.size, 0, none⟩ = some (.int .i64 l.head.age) ∧ X.cell? ⟨w.heap.size, 1, none⟩ = some (.int .i64 l.head.kind) ∧ X.cell? ⟨w.heap.size, 2, none⟩ = some (.int .i64 l.head.id) ∧ X.cell? ⟨w.heap.size, 3, none⟩ = some (.int .i64 l.head.adv) ∧ X.cell? ⟨w.heap.size, 4, none⟩ = some (.int .i64 l.head.seq) ∧ X.cell? ⟨w.heap.size, 5, none⟩ = some (.int .i64 l.head.sum) ∧ X.cell? ⟨w.heap.size, 6, none⟩ = some (.int .i64 l.head.len)) := by
    intro X hX
    have HBX : Below w.heap.size w X := below_more HB.out hX HB.out.size
    have h1 := (HK.out.below HBX).obj
    obtain ⟨c0, c1, c2, c3, c4, c5, c6, -, -, -, -, -⟩ := HRow.out.below HBX HRow.out.lt
    obtain ⟨d0, d1, d2, d3, d4, d5, d6, -, -, -, -, -⟩ := HX3.out.below hX HX3.out.lt
    exact ⟨h1.cell 1 rfl, c0, c1, c2, c3, c4, c5, c6, d0, d1, d2, d3, d4, d5, d6⟩
  have hS := keepS.out _ (Below.refl _ _).drew
  have CC : Calls _ _ _ _ _ := (rcmp_i r.2.head.age r.2.head.kind r.2.head.id r.2.head.adv r.2.head.seq r.2.head.sum r.2.head.len l.head.age l.head.kind l.head.id l.head.adv l.head.seq l.head.sum l.head.len w3.drew HIr.out HIl.out).mono (R' := fun e w' => e = .returned (.int .i64 (newI r.2.head.age r.2.head.seq r.2.head.sum l.head.age l.head.seq l.head.sum)) ∧ Below w3.heap.size w3 w') fun e w' h => ⟨h.1, ((Below.refl _ _).drew).trans h.2⟩
  generalize newI r.2.head.age r.2.head.seq r.2.head.sum l.head.age l.head.seq l.head.sum = V at *
  have hV := HC.out
  go_upto_region 6 with fail
  go_region_held3 (fun X => X.cell? ⟨b, 1, none⟩ = some (.slice (some ⟨g, 0, none⟩) L.length c) ∧ X.cell? ⟨g, p * 12, none⟩ = some (.int .i64 r.2.head.age) ∧ X.cell? ⟨g, p * 12 + 1, none⟩ = some (.int .i64 r.2.head.kind) ∧ X.cell? ⟨g, p * 12 + 2, none⟩ = some (.int .i64 r.2.head.id) ∧ X.cell? ⟨g, p * 12 + 3, none⟩ = some (.int .i64 r.2.head.adv) ∧ X.cell? ⟨g, p * 12 + 4, none⟩ = some (.int .i64 r.2.head.seq) ∧ X.cell? ⟨g, p * 12 + 5, none⟩ = some (.int .i64 r.2.head.sum) ∧ X.cell? ⟨g, p * 12 + 6, none⟩ = some (.int .i64 r.2.head.len) ∧ X.cell? ⟨w.heap.size, 0, none⟩ = some (.int .i64 l.head.age) ∧ X.cell? ⟨w.heap.size, 1, none⟩ = some (.int .i64 l.head.kind) ∧ X.cell? ⟨w.heap.size, 2, none⟩ = some (.int .i64 l.head.id) ∧ X.cell? ⟨w.heap.size, 3, none⟩ = some (.int .i64 l.head.adv) ∧ X.cell? ⟨w.heap.size, 4, none⟩ = some (.int .i64 l.head.seq) ∧ X.cell? ⟨w.heap.size, 5, none⟩ = some (.int .i64 l.head.sum) ∧ X.cell? ⟨w.heap.size, 6, none⟩ = some (.int .i64 l.head.len)) (with_reducible first | exact hS | exact keepS.out _ hk | assumption | fail) (first | (go_at_call 38; refine CC.mono ?_; rintro e w4 ⟨rfl, hk⟩))
  rename_i hSx
  have HX4 : Hid (Box w4 w.heap.size s l) := HX3.out.below hk HX3.out.lt
  replace HB : Hid (Below w.heap.size w w4) := below_more HB.out hk HB.out.size
  clear hk CC hS hSx keepS HX3
  have HIN : Hid (p < L.length) := (List.getElem?_eq_some_iff.1 HRr.out).1
  have b1 := (HK.out.below HB.out).obj.cell 1 rfl
  obtain ⟨c0, c1, c2, c3, c4, c5, c6, c7, c8, c9, c10, c11⟩ := HX4.out
  have CC : Calls _ _ _ _ _ := (dCopy_any s l w4.drew (HH.out.below HB.out.drew) HMI.out HNI.out).mono (R' := fun e w' => ∃ s', e = .returned (.agg (lsaA s' l)) ∧ Hid (Held w' s' l ∧ Nils s' ∧ Below w4.heap.size w4 w' ∧ Far w4.heap.size s'.la ∧ Far w4.heap.size s'.ra ∧ Far w4.heap.size s'.va) ∧ w'.cell? ⟨b, 1, none⟩ = some (.slice (some ⟨g, 0, none⟩) L.length c) ∧ RowAt w' g (p * 12) r ∧ ∀ j, w'.frozen? ⟨g, j, none⟩ = false) fun e w' ⟨s', h1, h2, h3, h4, h5, h6, h7⟩ => by
    have hX : Below w4.heap.size w4 w' := ((Below.refl _ _).drew).trans h4
    have hK := (HK.out.below HB.out).below hX
    exact ⟨s', h1, ⟨h2, h3, hX, h5, h6, h7⟩, hK.obj.cell 1 rfl, HRow.out.below (below_more HB.out hX HB.out.size) HRow.out.lt, fun j => World.ownsRow.frozenAt hK.own j⟩
  clear HX4
  go_upto_region 8 with fail
  go_region_with (first
    | (go_at_call 26; refine CC.mono ?_; rintro e w6 ⟨s', rfl, hcl, b1', ⟨y0, y1, y2, y3, y4, y5, y6, y7, y8, y9, y10, y11⟩, hfz⟩))
  all_goals
    clear y0 y1 y2 y3 y4 y5 y6 y7 y8 y9 y10 y11 hfz b1 b1' CC hV
    go_wp2
    go_ret
    obtain ⟨q1, q2, q3, q4, q5, q6⟩ := hcl.out
    have hK6 := (HK.out.below HB.out).below q3
    obtain ⟨o1, o2⟩ := own_put12 (p := p) hK6.own HIN.out s' l
    have hb4 := (HK.out.below HB.out).obj.lt
    refine ⟨s', rfl, ?_, ?_, ?_⟩
    · show Keeps _ _ _ _ _ (L.set p (s', l))
      refine hK6.turn (M := L.set p (s', l)) (by rw [List.length_set]; exact o1) o2 ?_ (rising_set hK6.rising p (s', l) HIN.out ?_) (by rw [List.length_set]; exact hK6.len)
      · intro x hx
        rcases List.mem_or_eq_of_mem_set hx with hx | rfl
        · exact hK6.row hx
        · refine ⟨q1, q2, HMI.out, HSE.out, off_far q4 q5 q6 hb4, fun g' hg' => off_far q4 q5 q6 ?_⟩
          exact (World.ownsRow.lt (HK.out.below HB.out).own g' hg').2
      · obtain ⟨_, e⟩ := List.getElem?_eq_some_iff.1 HRr.out
        rw [e, HKr.out]; rfl
    · exact (Turned.of b _ (below_more HB.out q3 HB.out.size)).trans (Turned.grown o2)
    · have := HB.out.size
      exact ⟨q4.mono (by omega), q5.mono (by omega), q6.mono (by omega)⟩
set_option maxHeartbeats 3200000 in
set_option maxRecDepth 20000 in
theorem dput_full (N b : Nat) (most : Int) (lv : Value) (L : List Row) (s : Seats) (l : LsaZ) (w : World) (h : Keeps w N b most lv L) (hH : Held w s l) (hf : Mid l) (hN : Nils s) (hs : sealedB l = true) (ht : thereB L (keyZ l.head) = false) (hfu : most ≤ (L.length : Int)) :
    Calls Try.prog 12 #[.pointer (some ⟨b, 0, none⟩), .agg (lsaA s l)] w fun e w' => e = .returned (.int .i64 8) ∧ Below w.heap.size w w' := by
  have HB : Hid (Below w.heap.size w (w.alloc (.cells (lsaA s l) 39))) := below_new' _ _
  have HK : Hid (Keeps w N b most lv L) := h
  have HX : Hid (Box (w.alloc (.cells (lsaA s l) 39)) w.heap.size s l) := box_new w s l
  have HH : Hid (Held w s l) := hH
  have HMI : Hid (Mid l) := hf
  have HNI : Hid (Nils s) := hN
  have HSE : Hid (sealedB l = true) := hs
  have HTH : Hid (thereB L (keyZ l.head) = false) := ht
  have HAT : Hid (atZ L (keyZ l.head) = -1) := by show _ = _; unfold atZ; rw [ht]; rfl
  have HFU : Hid (most ≤ (L.length : Int)) := hfu
  obtain ⟨a, c, rfl, -, hLc, -, -, -⟩ := h.lies
  have hlen : L.length ≤ 1000000 := h.len
  have hlc : (L.length : Int) ≤ (c : Int) := by omega
  clear hs ht hfu hLc
  clear h hH hf hN
  go_enter Try.func12, Try.ntmps12
  go_upto_region 1 with fail
  generalize w.alloc (.cells (lsaA s l) 39) = W at *
  obtain ⟨c0, c1, c2, c3, c4, c5, c6, c7, c8, c9, c10, c11⟩ := HX.out
  go_wp2_with fail
  refine (dSealed_any s l _ (HH.out.below HB.out) HMI.out HNI.out).mono ?_
  rintro e w1 ⟨rfl, hb⟩
  rw [HSE.out]
  have HX1 : Hid (Box w1 w.heap.size s l) := HX.out.below hb HX.out.lt
  replace HB : Hid (Below w.heap.size w w1) := below_more HB.out hb HB.out.size
  clear hb HX c0 c1 c2 c3 c4 c5 c6 c7 c8 c9 c10 c11
  obtain ⟨c0, c1, c2, c3, c4, c5, c6, c7, c8, c9, c10, c11⟩ := HX1.out
  go_wp2_with fail
  refine (dkeyOf_any l.head _).mono ?_
  rintro e w2 ⟨rfl, hb⟩
  have HX2 : Hid (Box w2 w.heap.size s l) := HX1.out.below hb HX1.out.lt
  replace HB : Hid (Below w.heap.size w w2) := below_more HB.out hb HB.out.size
  clear hb HX1 c0 c1 c2 c3 c4 c5 c6 c7 c8 c9 c10 c11
  have HV : Hid (Var (w2.alloc (.cells #[.int .i64 l.head.kind, .int .i64 l.head.id, .int .i64 l.head.adv] 41)) w2.heap.size [.int .i64 l.head.kind, .int .i64 l.head.id, .int .i64 l.head.adv]) := var_new w2 [.int .i64 l.head.kind, .int .i64 l.head.id, .int .i64 l.head.adv] _
  have HX3 : Hid (Box (w2.alloc (.cells #[.int .i64 l.head.kind, .int .i64 l.head.id, .int .i64 l.head.adv] 41)) w.heap.size s l) := HX2.out.below (below_new' _ _) HX2.out.lt
  replace HB : Hid (Below w.heap.size w (w2.alloc (.cells #[.int .i64 l.head.kind, .int .i64 l.head.id, .int .i64 l.head.adv] 41))) := HB.out.alloc HB.out.size _
  clear HX2
  go_upto_region 4 with fail
  obtain ⟨kb, hkb⟩ : ∃ kb, w2.heap.size = kb := ⟨_, rfl⟩
  rw [hkb] at HV ⊢
  generalize w2.alloc (.cells #[.int .i64 l.head.kind, .int .i64 l.head.id, .int .i64 l.head.adv] 41) = W3 at *
  clear hkb
  have d0 := HV.out.cell 0 rfl
  have d1 := HV.out.cell 1 rfl
  have d2 := HV.out.cell 2 rfl
  have CA := at_any N b most _ L (keyZ l.head) W3 (HK.out.below HB.out)
  rw [HAT.out] at CA
  go_wp2_with fail
  refine CA.mono ?_
  rintro e w3 ⟨rfl, hb⟩
  replace HV : Hid (Var w3 kb [.int .i64 l.head.kind, .int .i64 l.head.id, .int .i64 l.head.adv]) := HV.out.below hb HV.out.lt
  replace HX3 : Hid (Box w3 w.heap.size s l) := HX3.out.below hb HX3.out.lt
  replace HB : Hid (Below w.heap.size w w3) := below_more HB.out hb HB.out.size
  clear hb CA d0 d1 d2
  have b0 := (HK.out.below HB.out).obj.cell 0 rfl
  have b1 := (HK.out.below HB.out).obj.cell 1 rfl
  have hfu := HFU.out
  go_upto_region 10 with fail
  go_quiet (fail)
  have HX4 : Hid (Box (w3.drewN nq) w.heap.size s l) := HX3.out.below (below_dr (Below.refl _ _) nq) HX3.out.lt
  replace HV : Hid (Var (w3.drewN nq) kb [.int .i64 l.head.kind, .int .i64 l.head.id, .int .i64 l.head.adv]) := HV.out.below (below_dr (Below.refl _ _) nq) HV.out.lt
  replace HB : Hid (Below w.heap.size w (w3.drewN nq)) := below_dr HB.out nq
  clear HX3 b0 b1
  generalize w3.drewN nq = w4 at *
  go_wp2
  go_ret
  exact ⟨rfl, HB.out⟩
end Go.Proofs.Ytmcemhkhgccojaa
