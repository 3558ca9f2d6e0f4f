/- A sealed one with a byte turned is none. -/
import Derived.Test.YtoanjhccbmifmaaDoorS5L1
import Derived.Test.YtoanjhccbmifmaaDoorS5U
import Derived.Deep.RegionWith
import Derived.Deep.Cut
namespace Go.Proofs.YtoanjhccbmifmaaDoor
open Go.RowKit
set_option linter.unusedVariables false

theorem mod_in (n : Int) (L : Nat) (h : 1 ≤ L) : ∃ j : Nat, n % (L : Int) = j ∧ j < L := by
  have h1 : n % (L : Int) < (L : Int) := Int.emod_lt_of_pos _ (by omega)
  have h0 : 0 ≤ n % (L : Int) := Int.emod_nonneg _ (by omega)
  exact ⟨(n % (L : Int)).toNat, by omega, by omega⟩
theorem getD_set_same (l : List Int) (j : Nat) (v : Int) (h : j < l.length) : (l.set j v).getD j 0 = v := by simp [h]
theorem from_zero (zs : List Int) : fromZ zs 0 = zs := by unfold fromZ; rw [if_neg (by omega)]; rfl
theorem areBytes_set {zs : List Int} (h : AreBytes zs) (k : Nat) (v : Int) (hv : 0 ≤ v ∧ v ≤ 255) : AreBytes (zs.set k v) := by
  intro z hz
  rcases List.mem_or_eq_of_mem_set hz with hz | rfl
  · exact h z hz
  · exact hv
/-- Get of bytes that are none. -/
theorem get_refused (a : Option Addr) (n cap : Nat) (zs : List Int) (E : Int) (w : World) (hn : n = zs.length) (hE : Env w) (hS : Slice w a cap zs) (hE1 : getE zs = E) (hE0 : E ≠ 0) :
    Calls Tryd.prog 23 #[.slice a n cap, .int .i64 0] w fun e w' => e = .returned (.tuple #[.agg #[.int .i64 0, .int .i64 0, .int .i64 0, .int .i64 0, .int .i64 0, .int .i64 0, .int .i64 0, .int .i64 0, .slice none 0 0, .int .i64 0, .slice none 0 0, .slice none 0 0], .int .i64 0, .int .i64 E]) ∧ Below w.heap.size w w' := by
  refine (get_any a n cap zs 0 w hn hE hS).mono ?_
  rintro e w' ⟨hb, h | h⟩
  · rw [from_zero, hE1] at h; exact absurd h.1 hE0
  · rw [from_zero, hE1] at h; exact ⟨h.2, hb⟩
/-- What is said of the bytes of one that is sealed, with one turned. -/
def TurnedOk (bs : List Int) : Prop := ∀ (k : Nat) (v : Int), 2 ≤ k → k < bs.length → k ≠ 18 → k ≠ 19 → v ≠ bs.getD k 0 → 0 ≤ v → v ≤ 255 → ¬ (bs.getD k 0 = 0 ∧ v = 255) → ¬ (bs.getD k 0 = 255 ∧ v = 0) → getE (bs.set k v) ≠ 0
theorem turned_ok (l : LsaZ) (hr : rightLsaB l = true) : TurnedOk (layZ (withHead l (sealH l))) := fun k v h1 h2 h3 h4 h5 h6 h7 h8 h9 => turned_none l hr k v h1 h2 h3 h4 h5 h6 h7 h8 h9
set_option maxHeartbeats 3200000 in
theorem lsaTurned_walk (s : Seats) (l : LsaZ) (x1 x2 : Int) (w : World) (hH : Held w s l) (hN : Nils s) (h1 : 0 ≤ x1 ∧ x1 ≤ 65535) (h2 : 0 ≤ x2 ∧ x2 ≤ 255) (hE : Env w) :
    Calls Tryd.prog 7 #[.agg (lsaA s l), .int .u16 x1, .int .u8 x2] w fun e w' => e = .returned (.bool true) ∧ Below w.heap.size w w' := by
  have HX : Hid (Box (w.alloc (.cells (lsaA s l) 28)) w.heap.size s l) := box_new w s l
  have HB : Hid (Below w.heap.size w (w.alloc (.cells (lsaA s l) 28))) := below_new' _ _
  have HE : Hid (Env w) := hE
  have HH : Hid (Held w s l) := hH
  have HNI : Hid (Nils s) := hN
  clear hE hH hN
  go_enter Tryd.func7, Tryd.ntmps7
  go_upto_region 1 with fail
  generalize w.alloc (.cells (lsaA s l) 28) = W at *
  obtain ⟨c0, c1, c2, c3, c4, c5, c6, c7, c8, c9, c10, c11⟩ := HX.out
  go_wp2_with fail
  refine (great_any s l _).mono ?_
  rintro e w1 ⟨rfl, hb⟩
  replace HX : Hid (Box w1 w.heap.size s l) := HX.out.below hb HX.out.lt
  replace HB : Hid (Below w.heap.size w w1) := below_more HB.out hb HB.out.size
  clear hb c0 c1 c2 c3 c4 c5 c6 c7 c8 c9 c10 c11
  cases hg : greatB l with
  | true =>
    go_wp2_with fail
    refine (awake_any _ (HE.out.below HB.out (Nat.le_refl _))).mono ?_
    rintro e wz ⟨rfl, hb⟩
    replace HB : Hid (Below w.heap.size w wz) := below_more HB.out hb HB.out.size
    clear hb
    go_wp2
    go_ret
    exact ⟨rfl, HB.out⟩
  | false =>
    have HM : Hid (Mid l) := great_mid hg
    obtain ⟨c0, c1, c2, c3, c4, c5, c6, c7, c8, c9, c10, c11⟩ := HX.out
    go_wp2_with fail
    refine (rrightLsa_any s l _ (HH.out.below HB.out) HM.out.fits).mono ?_
    rintro e w2 ⟨rfl, hb⟩
    replace HX : Hid (Box w2 w.heap.size s l) := HX.out.below hb HX.out.lt
    replace HB : Hid (Below w.heap.size w w2) := below_more HB.out hb HB.out.size
    clear hb c0 c1 c2 c3 c4 c5 c6 c7 c8 c9 c10 c11
    cases hr : rightLsaB l with
    | false =>
      go_wp2_with fail
      refine (awake_any _ (HE.out.below HB.out (Nat.le_refl _))).mono ?_
      rintro e wz ⟨rfl, hb⟩
      replace HB : Hid (Below w.heap.size w wz) := below_more HB.out hb HB.out.size
      clear hb
      go_wp2
      go_ret
      exact ⟨rfl, HB.out⟩
    | true =>
      cases hy0 : (x2 == 0) with
      | true =>
        go_wp2_with fail
        refine (awake_any _ (HE.out.below HB.out (Nat.le_refl _))).mono ?_
        rintro e wz ⟨rfl, hb⟩
        replace HB : Hid (Below w.heap.size w wz) := below_more HB.out hb HB.out.size
        clear hb
        go_wp2
        go_ret
        exact ⟨rfl, HB.out⟩
      | false =>
        have hseal := fun W h => seal_yes s l W h HM.out HNI.out hr
        have HSE : Hid (sealedB (withHead l (sealH l)) = true) := sealed_sealed hr
        have HMM : Hid (Mid (withHead l (sealH l))) := mid_head HM.out _
        have HTO : Hid (TurnedOk (layZ (withHead l (sealH l)))) := turned_ok l hr
        generalize withHead l (sealH l) = M at *
        have HY0 : Hid (¬ x2 = 0) := by intro h; rw [h] at hy0; simp at hy0
        clear hr hg
        obtain ⟨c0, c1, c2, c3, c4, c5, c6, c7, c8, c9, c10, c11⟩ := HX.out
        go_wp2_with fail
        refine (hseal _ (HH.out.below HB.out)).mono ?_
        rintro e w3 ⟨s1, rfl, hh, hn, hb⟩
        replace HB : Hid (Below w.heap.size w w3) := below_more HB.out hb HB.out.size
        have HH1 : Hid (Held w3 s1 M) := hh
        clear hb hh hn HX hseal c0 c1 c2 c3 c4 c5 c6 c7 c8 c9 c10 c11
        have H33 : Hid (w.heap.size ≤ w3.heap.size) := HB.out.size
        have hp := put_sealed s1 M w3 (HE.out.below HB.out (Nat.le_refl _)) HH1.out HMM.out HSE.out
        have hl20 := lay_min M
        have HLZ : Hid (AreBytes (layZ M)) := layZ_bd _
        have hlm := lay_fits HMM.out
        generalize layZ M = bs at *
        go_wp2_with fail
        refine hp.mono ?_
        rintro e w5 ⟨g, cp, rfl, ho, hb⟩
        replace HB : Hid (Below w.heap.size w w5) := below_more HB.out hb HB.out.size
        have HO : Hid (Owns w5 w.heap.size g cp bs) := by
          have h3 : w.heap.size ≤ w3.heap.size := H33.out
          exact ho.base h3
        clear hb ho hp
        go_wp2_with fail
        refine (num_any _ _).mono ?_
        rintro e w6 ⟨rfl, hw6⟩
        subst w6
        obtain ⟨j, hj, hj1⟩ := mod_in x1 (bs.length - 2) (by omega)
        have hkk : wrap64 (2 + x1 % ((bs.length : Int) - 2)) = ((2 + j : Nat) : Int) := by
          rw [show ((bs.length : Int) - 2) = ((bs.length - 2 : Nat) : Int) by omega, hj, Go.IntWalk.wrap64_in _ (by omega)]; omega
        go_upto_region 7 with fail
        rw [hkk]
        obtain ⟨k, hk⟩ : ∃ k, k = 2 + j := ⟨_, rfl⟩
        rw [← hk]
        have hk2 : 2 ≤ k := by omega
        have hkb : k < bs.length := by omega
        clear hkk hj hj1 hk
        cases q18 : ((k : Int) == 18) with
        | true =>
          go_wp2_with fail
          refine (awake_any _ (HE.out.below HB.out (Nat.le_refl _))).mono ?_
          rintro e wz ⟨rfl, hb⟩
          replace HB : Hid (Below w.heap.size w wz) := below_more HB.out hb HB.out.size
          clear hb
          go_wp2
          go_ret
          exact ⟨rfl, HB.out⟩
        | false =>
        cases q19 : ((k : Int) == 19) with
        | true =>
          go_wp2_with fail
          refine (awake_any _ (HE.out.below HB.out (Nat.le_refl _))).mono ?_
          rintro e wz ⟨rfl, hb⟩
          replace HB : Hid (Below w.heap.size w wz) := below_more HB.out hb HB.out.size
          clear hb
          go_wp2
          go_ret
          exact ⟨rfl, HB.out⟩
        | false =>
          have H18 : Hid (k ≠ 18) := by intro h; rw [h] at q18; simp at q18
          have H19 : Hid (k ≠ 19) := by intro h; rw [h] at q19; simp at q19
          have c2 := HO.out.cell k hkb
          have f2 := HO.out.frozen
          have hU := areBytes_getD HLZ.out k
          obtain ⟨U, hUe⟩ : ∃ U, bs.getD k 0 = U := ⟨_, rfl⟩
          rw [hUe] at c2 hU
          have HU : Hid (bs.getD k 0 = U) := hUe
          clear hUe
          obtain ⟨N, hN, hN0, hN1⟩ : ∃ N : Int, IntKind.u8.wrap (U + x2) = N ∧ 0 ≤ N ∧ N ≤ 255 := ⟨_, rfl, by rw [IntKind.wrap_u8]; omega, by rw [IntKind.wrap_u8]; omega⟩
          have HN : Hid (N ≠ U) := by show _ ≠ _; rw [← hN, IntKind.wrap_u8]; have := HY0.out; omega
          have HO3 : Hid (Owns (w5.setCell ⟨g, k, none⟩ (.int .u8 N)) w.heap.size g cp (bs.set k N)) := HO.out.stored k N
          have HB3 : Hid (Below w.heap.size w (w5.setCell ⟨g, k, none⟩ (.int .u8 N))) := HB.out.setCell (p := ⟨g, k, none⟩) HO.out.lt.1 (.int .u8 N)
          go_upto_region 11 with fail
          generalize w5.setCell ⟨g, k, none⟩ (.int .u8 N) = W3 at *
          have c3 := HO3.out.cell k (by rw [List.length_set]; exact hkb)
          rw [getD_set_same _ _ _ hkb] at c3
          clear c2 f2 HO HB hN
          by_cases o1 : U = 0 ∧ N = 255
          · have s1 : (U == 0) = true := by simp [o1.1]
            have s2 : (N == 255) = true := by simp [o1.2]
            clear o1
            go_wp2_with fail
            refine (awake_any _ (HE.out.below HB3.out (Nat.le_refl _))).mono ?_
            rintro e wz ⟨rfl, hb⟩
            replace HB3 : Hid (Below w.heap.size w wz) := below_more HB3.out hb HB3.out.size
            clear hb
            go_wp2
            go_ret
            exact ⟨rfl, HB3.out⟩
          by_cases o2 : U = 255 ∧ N = 0
          · have s1 : (U == 0) = false := by simp [o2.1]
            have s2 : (U == 255) = true := by simp [o2.1]
            have s3 : (N == 0) = true := by simp [o2.2]
            clear o1 o2
            go_wp2_with fail
            refine (awake_any _ (HE.out.below HB3.out (Nat.le_refl _))).mono ?_
            rintro e wz ⟨rfl, hb⟩
            replace HB3 : Hid (Below w.heap.size w wz) := below_more HB3.out hb HB3.out.size
            clear hb
            go_wp2
            go_ret
            exact ⟨rfl, HB3.out⟩
          have GF := HTO.out k N hk2 hkb H18.out H19.out (by rw [HU.out]; exact HN.out) hN0 hN1 (by rw [HU.out]; exact o1) (by rw [HU.out]; exact o2)
          have HS3 : Hid (Slice W3 (some ⟨g, 0, none⟩) cp (bs.set k N)) := ⟨HO3.out.bts, areBytes_set HLZ.out k N ⟨hN0, hN1⟩, HO3.out.cap, (fun h => by cases h), by rw [List.length_set]; omega⟩
          have hget := get_refused (some ⟨g, 0, none⟩) bs.length cp (bs.set k N) (getE (bs.set k N)) W3 (by rw [List.length_set]) (HE.out.below HB3.out (Nat.le_refl _)) HS3.out rfl GF
          generalize getE (bs.set k N) = E at *
          have hE0 : (E != 0) = true := by simpa using GF
          clear GF HU HN HS3 HTO
          have hs : ((U == 0) = true ∧ (N == 255) = false ∧ (U == 255) = false) ∨ ((U == 0) = false ∧ (U == 255) = true ∧ (N == 0) = false) ∨ ((U == 0) = false ∧ (U == 255) = false) := by
            by_cases u0 : U = 0
            · exact .inl ⟨by simp [u0], by simp; omega, by simp [u0]⟩
            · by_cases u1 : U = 255
              · exact .inr (.inl ⟨by simp [u1], by simp [u1], by simp; omega⟩)
              · exact .inr (.inr ⟨by simp [u0], by simp [u1]⟩)
          clear o1 o2
          go_cut [83] from 64 (fun b wx => b = .bool false ∧ wx = W3)
          case first =>
            rcases hs with ⟨s1, s2, s3⟩ | ⟨s1, s2, s3⟩ | ⟨s1, s2⟩
            all_goals go_wp2
            all_goals go_meet
            all_goals exact ⟨rfl, rfl⟩
          case rest =>
            obtain ⟨rfl, hwc⟩ := hcut
            subst hwc
            clear hs
            go_wp2_with fail
            refine hget.mono ?_
            rintro e w7 ⟨rfl, hb⟩
            replace HB3 : Hid (Below w.heap.size w w7) := below_more HB3.out hb HB3.out.size
            clear hb hget HO3 c3
            have HB9 : Hid (Below w.heap.size w (w7.alloc (.cells #[.int .i64 0, .int .i64 0, .int .i64 0, .int .i64 0, .int .i64 0, .int .i64 0, .int .i64 0, .int .i64 0, .slice none 0 0, .int .i64 0, .slice none 0 0, .slice none 0 0] 28))) := HB3.out.alloc HB3.out.size _
            go_upto_region 14 with fail
            generalize w7.alloc (.cells #[.int .i64 0, .int .i64 0, .int .i64 0, .int .i64 0, .int .i64 0, .int .i64 0, .int .i64 0, .int .i64 0, .slice none 0 0, .int .i64 0, .slice none 0 0, .slice none 0 0] 28) = V at *
            clear HB3
            have hwk := awake_any V.drew (HE.out.below HB9.out.drew (Nat.le_refl _))
            have HBd : Hid (Below w.heap.size w V.drew) := HB9.out.drew
            first | go_region_with (first | (go_at_call 18; refine (num_any _ _).mono ?_; rintro e w' ⟨rfl, rfl⟩) | (go_at_call 10; refine hwk.mono ?_; rintro e w' ⟨rfl, hk⟩)) | fail
            all_goals
              have HRR : Hid (Below w.heap.size w w') := below_more HBd.out hk HBd.out.size
              clear hk hwk
              go_wp2
              go_ret
              exact ⟨rfl, HRR.out⟩
end Go.Proofs.YtoanjhccbmifmaaDoor
