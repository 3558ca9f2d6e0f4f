/- Whatever a base has, ticks, killings, what is old and dead, are the document's: the walk. -/
import Derived.Test.YtbogphhbjmapgaaD9N
import Derived.Test.YtbogphhbjmapgaaS9L0
namespace Go.Proofs.Ytbogphhbjmapgaa
open Go.RowKit
set_option linter.unusedVariables false

theorem own_lies {w : World} {N : Nat} {D : List KeyZ} {a : Option Addr} {c : Nat} (h : OwnK w N (.slice a D.length c) D) : Lies w a (cellsOf keyC D) := by
  obtain ⟨a', c', e, hl⟩ := OwnK.lies h
  simp only [Value.slice.injEq] at e
  rw [e.1]; exact hl
set_option maxHeartbeats 40000000 in
set_option maxRecDepth 20000 in
theorem ageRuns_walk (a hw : Option Addr) (cap hcap : Nat) (L0 : List Row) (zs : List Int) (adv : Int) (k : KeyZ) (w : World) (hL : Lies w a (cellsOf rowC L0)) (hE : ∀ r ∈ L0, Held w r.1 r.2 ∧ Nils r.1) (hB : Bts w hw zs) (hz : AreBytes zs) :
    Calls Try.prog 3 #[.slice a L0.length cap, .slice hw zs.length hcap, .int .i64 adv, .agg (keyV k)] w fun e w' => e = .returned (.bool true) ∧ Below w.heap.size w w' := by
  have HV : Hid (Var (w.alloc (.cells (keyV k) 25)) w.heap.size [.int .i64 k.kind, .int .i64 k.id, .int .i64 k.adv]) := var_new w [.int .i64 k.kind, .int .i64 k.id, .int .i64 k.adv] _
  have HW : Hid (Below w.heap.size w (w.alloc (.cells (keyV k) 25))) := below_new' _ _
  have HLI : Hid (Lies (w.alloc (.cells (keyV k) 25)) a (cellsOf rowC L0)) := hL.below HW.out
  have HEA : Hid (∀ r ∈ L0, Held (w.alloc (.cells (keyV k) 25)) r.1 r.2 ∧ Nils r.1) := fun r hr => ⟨(hE r hr).1.below HW.out, (hE r hr).2⟩
  have HBT : Hid (Bts (w.alloc (.cells (keyV k) 25)) hw zs ∧ AreBytes zs) := ⟨hB.below HW.out, hz⟩
  clear hL hE hB hz
  go_enter Try.func3, Try.ntmps3
  go_upto_region 1 with fail
  generalize w.alloc (.cells (keyV k) 25) = V at *
  by_cases hg1 : 40 < L0.length
  · have hg1I : (40 : Int) < (L0.length : Int) := by omega
    go_wp2_with fail
    refine (awake9_any _).mono ?_
    rintro e w2 ⟨rfl, hb⟩
    have HB2 : Hid (Below w.heap.size w w2) := below_more HW.out hb HW.out.size
    clear hb
    go_wp2
    go_ret
    exact ⟨rfl, HB2.out⟩
  by_cases hg2 : 60 < zs.length
  · have hg1I : ¬ (40 : Int) < (L0.length : Int) := by omega
    have hg2I : (60 : Int) < (zs.length : Int) := by omega
    go_wp2_with fail
    refine (awake9_any _).mono ?_
    rintro e w2 ⟨rfl, hb⟩
    have HB2 : Hid (Below w.heap.size w w2) := below_more HW.out hb HW.out.size
    clear hb
    go_wp2
    go_ret
    exact ⟨rfl, HB2.out⟩
  have hg1I : ¬ (40 : Int) < (L0.length : Int) := by omega
  have hg2I : ¬ (60 : Int) < (zs.length : Int) := by omega
  go_wp2_with fail
  refine (new_any 100 V (by omega) (by omega)).mono ?_
  rintro e w1 ⟨rfl, rfl⟩
  have hk1 := new_keeps V 100
  have hs1 : (V.alloc (.cells #[.int .i64 100, .slice none 0 0] 68)).heap.size = V.heap.size + 1 := size_new _ _
  have hb1 := below_new' V (.cells #[.int .i64 100, .slice none 0 0] 68)
  go_wp2_with fail
  refine (dnew_any 100 _ (by omega) (by omega)).mono ?_
  rintro e w2 ⟨rfl, rfl⟩
  have HBO : Hid (∃ Z, Both V ((V.alloc (.cells #[.int .i64 100, .slice none 0 0] 68)).alloc (.cells #[.int .i64 100, .slice none 0 0] 51)) V.heap.size V.heap.size (V.heap.size + 1) Z) := by
    have h2 := new_keeps' (V.alloc (.cells #[.int .i64 100, .slice none 0 0] 68)) 100 51
    have ha := apart_new (m2 := 100) 51 hk1
    rw [hs1] at h2 ha
    exact ⟨[], _, [], _, [], hk1.below (below_new' _ _), h2.lower (by omega), rfl, rfl, ha, below_more hb1 (below_new' _ _) hb1.size, by simp; omega⟩
  rw [hs1]
  clear hk1 hs1 hb1
  generalize (V.alloc (.cells #[.int .i64 100, .slice none 0 0] 68)).alloc (.cells #[.int .i64 100, .slice none 0 0] 51) = U at *
  go_wp2_with fail
  refine (num_any _ _).mono ?_
  rintro e w1 ⟨rfl, rfl⟩
  go_wp2_with fail
  go_loopw [13] (fun t wr => ∃ i : Nat, i ≤ L0.length ∧ t = .int .i64 (i : Int) ∧ Hid (∃ Z, Both V wr V.heap.size V.heap.size (V.heap.size + 1) Z)) (fun t _ => L0.length - (intOf t).toNat)
  case atStart => exact ⟨0, by omega, rfl, HBO.out⟩
  case round =>
    clear HBO
    obtain ⟨i, hi, rfl, HBO⟩ := hrel
    by_cases hlt : i < L0.length
    · have hiI : (i : Int) < (L0.length : Int) := by omega
      obtain ⟨Z, hBo⟩ := HBO.out
      have HBO1 : Hid (Both V wr V.heap.size V.heap.size (V.heap.size + 1) Z) := hBo
      have HVW : Hid (Below V.heap.size V wr ∧ V.heap.size ≤ wr.heap.size) := by
        obtain ⟨lv1, L1, lv2, L2, h1, h2, e1, e2, ha, hw, hn⟩ := hBo
        exact ⟨hw, hn⟩
      clear hBo HBO
      obtain ⟨g, o, rfl, hrow⟩ := DB.at HLI.out i hlt
      have hE := HEA.out _ (List.getElem_mem hlt)
      obtain ⟨r, hr⟩ : ∃ r, L0[i] = r := ⟨_, rfl⟩
      rw [hr] at hrow hE
      have HRA : Hid (∀ X, Below V.heap.size V X → RowAt X g (o + i * 12) r ∧ Held X r.1 r.2) := fun X hX => ⟨hrow.below hX hrow.lt, hE.1.below hX⟩
      have HNI : Hid (Nils r.1) := hE.2
      have HR : Hid (RowAt wr g (o + i * 12) r) := (HRA.out wr HVW.out.1).1
      have HE1 : Hid (Held wr r.1 r.2 ∧ Nils r.1) := ⟨(HRA.out wr HVW.out.1).2, HNI.out⟩
      clear hrow hE hr
      obtain ⟨c0, c1, c2, c3, c4, c5, c6, c7, c8, c9, c10, c11⟩ := HR.out
      have CG := great_any r.1 r.2 wr
      cases hgr : greatB r.2 with
      | true =>
        rw [hgr] at CG
        go_wp2_with fail
        refine CG.mono ?_
        rintro e w2 ⟨rfl, hb⟩
        clear c0 c1 c2 c3 c4 c5 c6 c7 c8 c9 c10 c11 CG
        go_wp2_with fail
        refine (awake9_any _).mono ?_
        rintro e w3 ⟨rfl, hb3⟩
        have HB3 : Hid (Below w.heap.size w w3) := HW.out.trans ((HVW.out.1.trans ((hb.trans (hb3.mono hb.size)).mono HVW.out.2)).mono HW.out.size)
        clear hb hb3
        go_wp2
        go_ret
        exact ⟨rfl, HB3.out⟩
      | false =>
        rw [hgr] at CG
        have HM : Hid (Mid r.2) := great_mid9 hgr
        go_wp2_with fail
        refine CG.mono ?_
        rintro e w2 ⟨rfl, hb⟩
        have HB2 : Hid (Below wr.heap.size wr w2) := hb
        clear c0 c1 c2 c3 c4 c5 c6 c7 c8 c9 c10 c11 CG hb hgr
        obtain ⟨c0, c1, c2, c3, c4, c5, c6, c7, c8, c9, c10, c11⟩ := HR.out.below HB2.out HR.out.lt
        have CS := dSealF_any r.1 r.2 w2 (HE1.out.1.below HB2.out) HM.out HE1.out.2
        go_wp2_with fail
        refine CS.mono ?_
        rintro e w3 ⟨s1, rfl, hh, hn, hb, -⟩
        have HB3 : Hid (Below wr.heap.size wr w3) := below_more HB2.out hb HB2.out.size
        have CP := HBO1.out.put1 HB3.out s1 (sealL r.2) hh (sealL_mid HM.out) hn
        clear c0 c1 c2 c3 c4 c5 c6 c7 c8 c9 c10 c11 CS hh hn hb HB2
        go_wp2_with fail
        refine CP.mono ?_
        rintro e w4 ⟨rfl, hp⟩
        have HP : Hid (Half2 V w4 V.heap.size V.heap.size (V.heap.size + 1) (dbZ Z (sealL r.2)) Z) := hp
        have HV4 : Hid (Below V.heap.size V w4 ∧ V.heap.size ≤ w4.heap.size) := by
          obtain ⟨lv1, L1, lv2, L2, h1, h2, e1, e2, ha, hw, hn⟩ := hp
          exact ⟨hw, hn⟩
        clear CP hp HBO1 HB3
        clear HR HE1
        have HE4 := (HRA.out w4 HV4.out.1).2
        obtain ⟨c0, c1, c2, c3, c4, c5, c6, c7, c8, c9, c10, c11⟩ := (HRA.out w4 HV4.out.1).1
        have CS := dSealF_any r.1 r.2 w4 HE4 HM.out HNI.out
        clear HE4
        go_wp2_with fail
        refine CS.mono ?_
        rintro e w5 ⟨s2, rfl, hh, hn, hb, hf1, hf2, hf3⟩
        have CP := HP.out.put2 hb s2 (sealL r.2) rfl hh (sealL_mid HM.out) hn ⟨hf1, hf2, hf3⟩
        clear c0 c1 c2 c3 c4 c5 c6 c7 c8 c9 c10 c11 CS hh hn hb hf1 hf2 hf3 HP
        go_wp2_with fail
        refine CP.mono ?_
        rintro e w6 ⟨rfl, hp⟩
        have HBN : Hid (∃ Z, Both V w6 V.heap.size V.heap.size (V.heap.size + 1) Z) := ⟨_, hp⟩
        clear CP hp HVW HV4 HRA HM HNI
        go_wp2
        go_roundw
        case rel => exact ⟨i + 1, by omega, by go_num, HBN⟩
        case measure => simp [intOf]; omega
    · obtain rfl : i = L0.length := by omega
      have hnl : ¬ ((L0.length : Int) < (L0.length : Int)) := by omega
      clear HLI HEA
      go_wp2_with fail
      go_loopw [14] (fun t wr => ∃ i : Nat, i ≤ zs.length ∧ t = .int .i64 (i : Int) ∧ Hid (∃ Z, Both V wr V.heap.size V.heap.size (V.heap.size + 1) Z)) (fun t _ => zs.length - (intOf t).toNat)
      case atStart => exact ⟨0, by omega, rfl, HBO.out⟩
      case round =>
        clear HBO
        obtain ⟨i, hi, rfl, HBO⟩ := hrel
        by_cases hlt : i < zs.length
        · have hiI : (i : Int) < (zs.length : Int) := by omega
          obtain ⟨Z, hBo⟩ := HBO.out
          have HBO1 : Hid (Both V wr V.heap.size V.heap.size (V.heap.size + 1) Z) := hBo
          clear hBo HBO
          obtain ⟨hb, ho, rfl, hcell⟩ : ∃ nb off, hw = some ⟨nb, off, none⟩ ∧ ∀ i, i < zs.length → V.cell? ⟨nb, off + i, none⟩ = some (.int .u8 (zs.getD i 0)) := by
            rcases HBT.out.1 with h | h
            · rw [h] at hlt; simp at hlt
            · exact h
          have hnb : hb < V.heap.size := block_lt_of_cell (hcell i hlt)
          have HCELL : Hid (∀ X, Below V.heap.size V X → X.cell? ⟨hb, ho + i, none⟩ = some (.int .u8 (zs.getD i 0))) := fun X hX => by rw [hX.cell hnb]; exact hcell i hlt
          have hzm := areBytes_getD HBT.out.2 i
          clear hcell hnb
          obtain ⟨lv1, L1, lv2, L2, h1, h2, e1, e2, ha, hw', hn⟩ := HBO1.out
          have c0 := HCELL.out wr hw'
          generalize zs.getD i 0 = z at *
          have hm4 : z % 4 = 0 ∨ z % 4 = 1 ∨ z % 4 = 2 ∨ z % 4 = 3 := by omega
          rcases hm4 with hm | hm | hm | hm
          · have hmt : z.tmod 4 = 0 := by rw [Int.tmod_eq_emod_of_nonneg hzm.1]; exact hm
            have CT1 := tick_any V.heap.size V.heap.size 100 lv1 L1 wr h1
            go_wp2_with fail
            refine CT1.mono ?_
            rintro e v1 ⟨v, M1, rfl, hk1, hK1, hM1, ht1, hs1⟩
            obtain ⟨h2', ha'⟩ := ha.turn h1 h2 ht1 hs1
            obtain ⟨a5, c5, rfl, -⟩ := hk1.lies
            rw [up_as, e1] at hM1
            rw [tickK_as, e1] at hk1 ⊢
            have HW1 : Hid (Below V.heap.size V v1 ∧ V.heap.size ≤ v1.heap.size) := ⟨h1.below_turned2 hw' hn ht1, Nat.le_trans hn ht1.size⟩
            have HB2L : Hid (V.heap.size + 1 < wr.heap.size ∧ ∀ k, lv2.ownBlock = some k → k < wr.heap.size) := ⟨h2.obj.lt, h2.own_lt⟩
            have HK1 : Hid (OwnK v1 wr.heap.size (.slice a5 (tickZ Z).length c5) (tickZ Z)) := hk1
            have HKK : Hid (Keeps v1 V.heap.size V.heap.size 100 lv1 M1 ∧ (M1.map fun r => r.2) = Z.map upL) := ⟨hK1, hM1⟩
            have HK2 : Hid (Keeps v1 V.heap.size (V.heap.size + 1) 100 lv2 L2 ∧ (L2.map fun r => r.2) = Z) := ⟨h2', e2⟩
            have HAP : Hid (Apart V.heap.size lv1 M1 (V.heap.size + 1) lv2 L2) := ha'
            have HZL : Hid ((tickZ Z).length ≤ 1000000) := by
              have := h1.len
              have h9 := keysOf_len (fun h => h.age == 3599) (Z.map fun l => l.head)
              show _ ≤ _
              unfold tickZ
              rw [List.length_map, ← e1, List.length_map] at h9
              rw [← e1]
              omega
            clear hk1 hK1 hM1 ht1 hs1 h1 h2 h2' ha ha' e1 e2 hw' hn CT1
            have CT2 := dtick_any V.heap.size (V.heap.size + 1) 100 lv2 L2 v1 HK2.out.1 HW1.out.2
            go_wp2_with fail
            refine CT2.mono ?_
            rintro e v2 ⟨v', M2, rfl, hk2, hK2, hM2, ht2, hs2⟩
            rw [up_as, HK2.out.2] at hM2
            rw [tickK_as, HK2.out.2] at hk2
            obtain ⟨a6, c6, rfl, hl6⟩ := hk2.lies
            obtain ⟨h1'', ha''⟩ := HAP.out.swap.turn HK2.out.1 HKK.out.1 ht2 hs2
            have hl5 := own_lies (own_turned HK1.out ht2 HB2L.out.1 HB2L.out.2)
            have HBO2 : Hid (Both V v2 V.heap.size V.heap.size (V.heap.size + 1) (Z.map upL)) := ⟨lv1, M1, lv2, M2, h1'', hK2, HKK.out.2, hM2, ha''.swap, HK2.out.1.below_turned2 HW1.out.1 HW1.out.2 ht2, Nat.le_trans HW1.out.2 ht2.size⟩
            have CC0 := dkeys_any a5 a6 c5 c6 _ v2 hl5 hl6 HZL.out
            clear hk2 hK2 hM2 ht2 hs2 h1'' ha'' hl5 hl6 CT2 HK1 HKK HK2 HAP HB2L HW1 HZL
            go_wp2_with fail
            refine CC0.mono ?_
            rintro e v3 ⟨rfl, hb⟩
            have HBO3 : Hid (Both V v3 V.heap.size V.heap.size (V.heap.size + 1) (Z.map upL)) := HBO2.out.below hb
            clear hb CC0 HBO2 HCELL
            generalize Z.map upL = Z at HBO3
            have HBO : Hid (Both V v3 V.heap.size V.heap.size (V.heap.size + 1) Z) := HBO3.out
            clear HBO3
            obtain ⟨lv1, L1, lv2, L2, h1, h2, e1, e2, -, -, -⟩ := HBO.out
            have HL : Hid (Z.length ≤ 1000000) := HBO.out.len
            have CO1 := old_any V.heap.size V.heap.size 100 lv1 L1 adv v3 h1
            unfold KeysEnd at CO1
            rw [heads_as, e1] at CO1
            have HH2 : Hid (Keeps v3 V.heap.size (V.heap.size + 1) 100 lv2 L2 ∧ (L2.map fun r => r.2) = Z) := ⟨h2, e2⟩
            have HH1 : Hid (Keeps v3 V.heap.size V.heap.size 100 lv1 L1 ∧ (L1.map fun r => r.2) = Z) := ⟨h1, e1⟩
            clear h1 h2 e1 e2
            go_wp2_with fail
            refine CO1.mono ?_
            rintro e o1 ⟨v, rfl, hk, hb⟩
            obtain ⟨a1, c1, rfl, -⟩ := hk.lies
            have HK1 : Hid (OwnK o1 v3.heap.size (.slice a1 (keysOf (oldH adv) (Z.map fun l => l.head)).length c1) (keysOf (oldH adv) (Z.map fun l => l.head))) := hk
            have HO1 : Hid (Below v3.heap.size v3 o1) := hb
            clear hk hb CO1
            have CO2 := dold_any V.heap.size (V.heap.size + 1) 100 lv2 L2 adv o1 (HH2.out.1.below HO1.out)
            unfold KeysEnd at CO2
            rw [heads_as, HH2.out.2] at CO2
            go_wp2_with fail
            refine CO2.mono ?_
            rintro e o2 ⟨v, rfl, hk, hb⟩
            obtain ⟨a2, c2, rfl, hl2⟩ := hk.lies
            have HO2 : Hid (Below v3.heap.size v3 o2) := HO1.out.trans (hb.mono HO1.out.size)
            have hkl : (keysOf (oldH adv) (Z.map fun l => l.head)).length ≤ 1000000 := by
              have := keysOf_len (oldH adv) (Z.map fun l => l.head)
              rw [List.length_map] at this
              have := HL.out; omega
            have hl1 := own_lies (own_below HK1.out hb)
            have CC := dkeys_any a1 a2 c1 c2 _ o2 hl1 hl2 hkl
            clear hk hb CO2 HK1 hl1 hl2
            go_wp2_with fail
            refine CC.mono ?_
            rintro e o3 ⟨rfl, hb⟩
            have HO3 : Hid (Below v3.heap.size v3 o3) := HO2.out.trans (hb.mono HO2.out.size)
            clear hb CC HO2 HO1
            have CD1 := dead_any V.heap.size V.heap.size 100 lv1 L1 o3 (HH1.out.1.below HO3.out)
            unfold KeysEnd at CD1
            rw [heads_as, HH1.out.2] at CD1
            go_wp2_with fail
            refine CD1.mono ?_
            rintro e o4 ⟨v, rfl, hk, hb⟩
            obtain ⟨a3, c3, rfl, -⟩ := hk.lies
            have HK3 : Hid (OwnK o4 o3.heap.size (.slice a3 (keysOf deadH (Z.map fun l => l.head)).length c3) (keysOf deadH (Z.map fun l => l.head))) := hk
            have HO4 : Hid (Below v3.heap.size v3 o4) := HO3.out.trans (hb.mono HO3.out.size)
            clear hk hb CD1
            have CD2 := ddead_any V.heap.size (V.heap.size + 1) 100 lv2 L2 o4 (HH2.out.1.below HO4.out)
            unfold KeysEnd at CD2
            rw [heads_as, HH2.out.2] at CD2
            go_wp2_with fail
            refine CD2.mono ?_
            rintro e o5 ⟨v, rfl, hk, hb⟩
            obtain ⟨a4, c4, rfl, hl4⟩ := hk.lies
            have HO5 : Hid (Below v3.heap.size v3 o5) := HO4.out.trans (hb.mono HO4.out.size)
            have hkl2 : (keysOf deadH (Z.map fun l => l.head)).length ≤ 1000000 := by
              have := keysOf_len deadH (Z.map fun l => l.head)
              rw [List.length_map] at this
              have := HL.out; omega
            have hl3 := own_lies (own_below HK3.out hb)
            have CC := dkeys_any a3 a4 c3 c4 _ o5 hl3 hl4 hkl2
            clear hk hb CD2 HK3 hl3 hl4 hkl
            go_wp2_with fail
            refine CC.mono ?_
            rintro e o6 ⟨rfl, hb⟩
            have HBN : Hid (∃ Z, Both V o6 V.heap.size V.heap.size (V.heap.size + 1) Z) := ⟨Z, HBO.out.below (HO5.out.trans (hb.mono HO5.out.size))⟩
            clear hb CC HO5 HO4 HO3 HH1 HH2 HBO HL hkl2
            go_wp2
            go_roundw
            case rel => exact ⟨i + 1, by omega, by go_num, HBN⟩
            case measure => simp [intOf]; omega
          · have hmt : z.tmod 4 = 1 := by rw [Int.tmod_eq_emod_of_nonneg hzm.1]; exact hm
            have CT1 := tick_any V.heap.size V.heap.size 100 lv1 L1 wr h1
            go_wp2_with fail
            refine CT1.mono ?_
            rintro e v1 ⟨v, M1, rfl, hk1, hK1, hM1, ht1, hs1⟩
            obtain ⟨h2', ha'⟩ := ha.turn h1 h2 ht1 hs1
            obtain ⟨a5, c5, rfl, -⟩ := hk1.lies
            rw [up_as, e1] at hM1
            rw [tickK_as, e1] at hk1 ⊢
            have HW1 : Hid (Below V.heap.size V v1 ∧ V.heap.size ≤ v1.heap.size) := ⟨h1.below_turned2 hw' hn ht1, Nat.le_trans hn ht1.size⟩
            have HB2L : Hid (V.heap.size + 1 < wr.heap.size ∧ ∀ k, lv2.ownBlock = some k → k < wr.heap.size) := ⟨h2.obj.lt, h2.own_lt⟩
            have HK1 : Hid (OwnK v1 wr.heap.size (.slice a5 (tickZ Z).length c5) (tickZ Z)) := hk1
            have HKK : Hid (Keeps v1 V.heap.size V.heap.size 100 lv1 M1 ∧ (M1.map fun r => r.2) = Z.map upL) := ⟨hK1, hM1⟩
            have HK2 : Hid (Keeps v1 V.heap.size (V.heap.size + 1) 100 lv2 L2 ∧ (L2.map fun r => r.2) = Z) := ⟨h2', e2⟩
            have HAP : Hid (Apart V.heap.size lv1 M1 (V.heap.size + 1) lv2 L2) := ha'
            have HZL : Hid ((tickZ Z).length ≤ 1000000) := by
              have := h1.len
              have h9 := keysOf_len (fun h => h.age == 3599) (Z.map fun l => l.head)
              show _ ≤ _
              unfold tickZ
              rw [List.length_map, ← e1, List.length_map] at h9
              rw [← e1]
              omega
            clear hk1 hK1 hM1 ht1 hs1 h1 h2 h2' ha ha' e1 e2 hw' hn CT1
            have CT2 := dtick_any V.heap.size (V.heap.size + 1) 100 lv2 L2 v1 HK2.out.1 HW1.out.2
            go_wp2_with fail
            refine CT2.mono ?_
            rintro e v2 ⟨v', M2, rfl, hk2, hK2, hM2, ht2, hs2⟩
            rw [up_as, HK2.out.2] at hM2
            rw [tickK_as, HK2.out.2] at hk2
            obtain ⟨a6, c6, rfl, hl6⟩ := hk2.lies
            obtain ⟨h1'', ha''⟩ := HAP.out.swap.turn HK2.out.1 HKK.out.1 ht2 hs2
            have hl5 := own_lies (own_turned HK1.out ht2 HB2L.out.1 HB2L.out.2)
            have HBO2 : Hid (Both V v2 V.heap.size V.heap.size (V.heap.size + 1) (Z.map upL)) := ⟨lv1, M1, lv2, M2, h1'', hK2, HKK.out.2, hM2, ha''.swap, HK2.out.1.below_turned2 HW1.out.1 HW1.out.2 ht2, Nat.le_trans HW1.out.2 ht2.size⟩
            have CC0 := dkeys_any a5 a6 c5 c6 _ v2 hl5 hl6 HZL.out
            clear hk2 hK2 hM2 ht2 hs2 h1'' ha'' hl5 hl6 CT2 HK1 HKK HK2 HAP HB2L HW1 HZL
            go_wp2_with fail
            refine CC0.mono ?_
            rintro e v3 ⟨rfl, hb⟩
            have HBO3 : Hid (Both V v3 V.heap.size V.heap.size (V.heap.size + 1) (Z.map upL)) := HBO2.out.below hb
            clear hb CC0 HBO2 HCELL
            generalize Z.map upL = Z at HBO3
            have HBO : Hid (Both V v3 V.heap.size V.heap.size (V.heap.size + 1) Z) := HBO3.out
            clear HBO3
            obtain ⟨lv1, L1, lv2, L2, h1, h2, e1, e2, -, -, -⟩ := HBO.out
            have HL : Hid (Z.length ≤ 1000000) := HBO.out.len
            have CO1 := old_any V.heap.size V.heap.size 100 lv1 L1 adv v3 h1
            unfold KeysEnd at CO1
            rw [heads_as, e1] at CO1
            have HH2 : Hid (Keeps v3 V.heap.size (V.heap.size + 1) 100 lv2 L2 ∧ (L2.map fun r => r.2) = Z) := ⟨h2, e2⟩
            have HH1 : Hid (Keeps v3 V.heap.size V.heap.size 100 lv1 L1 ∧ (L1.map fun r => r.2) = Z) := ⟨h1, e1⟩
            clear h1 h2 e1 e2
            go_wp2_with fail
            refine CO1.mono ?_
            rintro e o1 ⟨v, rfl, hk, hb⟩
            obtain ⟨a1, c1, rfl, -⟩ := hk.lies
            have HK1 : Hid (OwnK o1 v3.heap.size (.slice a1 (keysOf (oldH adv) (Z.map fun l => l.head)).length c1) (keysOf (oldH adv) (Z.map fun l => l.head))) := hk
            have HO1 : Hid (Below v3.heap.size v3 o1) := hb
            clear hk hb CO1
            have CO2 := dold_any V.heap.size (V.heap.size + 1) 100 lv2 L2 adv o1 (HH2.out.1.below HO1.out)
            unfold KeysEnd at CO2
            rw [heads_as, HH2.out.2] at CO2
            go_wp2_with fail
            refine CO2.mono ?_
            rintro e o2 ⟨v, rfl, hk, hb⟩
            obtain ⟨a2, c2, rfl, hl2⟩ := hk.lies
            have HO2 : Hid (Below v3.heap.size v3 o2) := HO1.out.trans (hb.mono HO1.out.size)
            have hkl : (keysOf (oldH adv) (Z.map fun l => l.head)).length ≤ 1000000 := by
              have := keysOf_len (oldH adv) (Z.map fun l => l.head)
              rw [List.length_map] at this
              have := HL.out; omega
            have hl1 := own_lies (own_below HK1.out hb)
            have CC := dkeys_any a1 a2 c1 c2 _ o2 hl1 hl2 hkl
            clear hk hb CO2 HK1 hl1 hl2
            go_wp2_with fail
            refine CC.mono ?_
            rintro e o3 ⟨rfl, hb⟩
            have HO3 : Hid (Below v3.heap.size v3 o3) := HO2.out.trans (hb.mono HO2.out.size)
            clear hb CC HO2 HO1
            have CD1 := dead_any V.heap.size V.heap.size 100 lv1 L1 o3 (HH1.out.1.below HO3.out)
            unfold KeysEnd at CD1
            rw [heads_as, HH1.out.2] at CD1
            go_wp2_with fail
            refine CD1.mono ?_
            rintro e o4 ⟨v, rfl, hk, hb⟩
            obtain ⟨a3, c3, rfl, -⟩ := hk.lies
            have HK3 : Hid (OwnK o4 o3.heap.size (.slice a3 (keysOf deadH (Z.map fun l => l.head)).length c3) (keysOf deadH (Z.map fun l => l.head))) := hk
            have HO4 : Hid (Below v3.heap.size v3 o4) := HO3.out.trans (hb.mono HO3.out.size)
            clear hk hb CD1
            have CD2 := ddead_any V.heap.size (V.heap.size + 1) 100 lv2 L2 o4 (HH2.out.1.below HO4.out)
            unfold KeysEnd at CD2
            rw [heads_as, HH2.out.2] at CD2
            go_wp2_with fail
            refine CD2.mono ?_
            rintro e o5 ⟨v, rfl, hk, hb⟩
            obtain ⟨a4, c4, rfl, hl4⟩ := hk.lies
            have HO5 : Hid (Below v3.heap.size v3 o5) := HO4.out.trans (hb.mono HO4.out.size)
            have hkl2 : (keysOf deadH (Z.map fun l => l.head)).length ≤ 1000000 := by
              have := keysOf_len deadH (Z.map fun l => l.head)
              rw [List.length_map] at this
              have := HL.out; omega
            have hl3 := own_lies (own_below HK3.out hb)
            have CC := dkeys_any a3 a4 c3 c4 _ o5 hl3 hl4 hkl2
            clear hk hb CD2 HK3 hl3 hl4 hkl
            go_wp2_with fail
            refine CC.mono ?_
            rintro e o6 ⟨rfl, hb⟩
            have HBN : Hid (∃ Z, Both V o6 V.heap.size V.heap.size (V.heap.size + 1) Z) := ⟨Z, HBO.out.below (HO5.out.trans (hb.mono HO5.out.size))⟩
            clear hb CC HO5 HO4 HO3 HH1 HH2 HBO HL hkl2
            go_wp2
            go_roundw
            case rel => exact ⟨i + 1, by omega, by go_num, HBN⟩
            case measure => simp [intOf]; omega
          · have hmt : z.tmod 4 = 2 := by rw [Int.tmod_eq_emod_of_nonneg hzm.1]; exact hm
            obtain ⟨q, hq⟩ : ∃ q : Nat, z / 4 = (q : Int) := ⟨(z / 4).toNat, by omega⟩
            have hqt : z.tdiv 4 = (q : Int) := by rw [Int.tdiv_eq_ediv_of_nonneg hzm.1]; exact hq
            have HS1 : Hid (Keeps wr V.heap.size V.heap.size 100 lv1 L1 ∧ (L1.map fun r => r.2) = Z) := ⟨h1, e1⟩
            have HS2 : Hid (Keeps wr V.heap.size (V.heap.size + 1) 100 lv2 L2 ∧ (L2.map fun r => r.2) = Z) := ⟨h2, e2⟩
            have HS3 : Hid (Apart V.heap.size lv1 L1 (V.heap.size + 1) lv2 L2) := ha
            have HS4 : Hid (Below V.heap.size V wr ∧ V.heap.size ≤ wr.heap.size) := ⟨hw', hn⟩
            have hvk := HV.out.below hw' HV.out.lt
            have d0 := hvk.cell 0 rfl
            have d1 := hvk.cell 1 rfl
            have d2 := hvk.cell 2 rfl
            obtain ⟨a2, c2, hlv2, -, hlc2, -, -, -⟩ := h2.lies
            have HLV2 : Hid (lv2 = .slice a2 L2.length c2) := hlv2
            have hlen2 : L2.length ≤ 1000000 := h2.len
            have HKW : Hid (Var (wr.alloc (.cells (keyV k) 25)) wr.heap.size [.int .i64 k.kind, .int .i64 k.id, .int .i64 k.adv]) := var_new wr [.int .i64 k.kind, .int .i64 k.id, .int .i64 k.adv] _
            have HWK : Hid (Below wr.heap.size wr (wr.alloc (.cells (keyV k) 25))) := below_new' _ _
            clear h1 h2 e1 e2 ha hw' hn hvk hlv2
            go_upto_region 24 with fail
            clear d0 d1 d2 c0
            have HKB : Hid (wr.heap.size ≤ wr.heap.size) := Nat.le_refl _
            obtain ⟨kb, hkb⟩ : ∃ kb, wr.heap.size = kb := ⟨_, rfl⟩
            replace HKB : Hid (kb = wr.heap.size) := hkb.symm
            rw [hkb] at HKW ⊢
            generalize wr.alloc (.cells (keyV k) 25) = WK at *
            have b1 := (HS2.out.1.below HWK.out).obj.cell 1 rfl
            rw [HLV2.out] at b1
            have c0 := HCELL.out WK (below_more HS4.out.1 HWK.out HS4.out.2)
            clear hkb
            go_quiet (fail)
            have HWQ : Hid (Below wr.heap.size wr (WK.drewN nq)) := below_dr HWK.out nq
            have HKQ : Hid (Var (WK.drewN nq) kb [.int .i64 k.kind, .int .i64 k.id, .int .i64 k.adv]) := HKW.out.below (below_dr (Below.refl _ _) nq) HKW.out.lt
            clear b1 c0 HKW HWK
            generalize WK.drewN nq = WQ at *
            by_cases hql : q < L2.length
            · have hqI : (q : Int) < (L2.length : Int) := by omega
              have hlcI : (L2.length : Int) ≤ (c2 : Int) := by omega
              have HKQ2 := HKQ
              obtain ⟨g5, c5, e5, -, -, -, hrow, -⟩ := (HS2.out.1.below HWQ.out).at q hql
              obtain rfl : a2 = some ⟨g5, 0, none⟩ := by
                have e6 := HLV2.out
                rw [e5] at e6
                simp only [Value.slice.injEq] at e6
                exact e6.1.symm
              obtain ⟨r, hr⟩ : ∃ r, L2[q] = r := ⟨_, rfl⟩
              rw [hr] at hrow
              have HRow : Hid (RowAt WQ g5 (q * 12) r) := hrow
              have b1 := (HS2.out.1.below HWQ.out).obj.cell 1 rfl
              rw [HLV2.out] at b1
              have c9 := HCELL.out WQ (below_more HS4.out.1 HWQ.out HS4.out.2)
              have CKF : Calls _ _ _ _ _ := (dkeyOf_any r.2.head WQ.drew).mono (R' := fun e w' => e = .returned (.agg #[.int .i64 r.2.head.kind, .int .i64 r.2.head.id, .int .i64 r.2.head.adv]) ∧ Hid (Below wr.heap.size wr w' ∧ Var w' kb [.int .i64 k.kind, .int .i64 k.id, .int .i64 k.adv]) ∧ w'.cell? ⟨V.heap.size + 1, 1, none⟩ = some (.slice (some ⟨g5, 0, none⟩) L2.length c2) ∧ w'.cell? ⟨hb, ho + i, none⟩ = some (.int .u8 z) ∧ (w'.cell? ⟨kb, 0, none⟩ = some (.int .i64 k.kind) ∧ w'.cell? ⟨kb, 1, none⟩ = some (.int .i64 k.id) ∧ w'.cell? ⟨kb, 2, none⟩ = some (.int .i64 k.adv)) ∧ ∀ j, w'.frozen? ⟨kb, j, none⟩ = false) fun e w' h => by
                have hX : Below wr.heap.size wr w' := below_more HWQ.out.drew (h.2.mono (Nat.le_refl _)) HWQ.out.drew.size
                have hv := (HKQ.out.below (Below.refl _ _).drew HKQ.out.lt).below h.2 (HKQ.out.below (Below.refl _ _).drew HKQ.out.lt).lt
                refine ⟨h.1, ⟨hX, hv⟩, ?_, HCELL.out w' (below_more HS4.out.1 hX HS4.out.2), ⟨hv.cell 0 rfl, hv.cell 1 rfl, hv.cell 2 rfl⟩, fun j => hv.frozen j⟩
                rw [← HLV2.out]; exact (HS2.out.1.below hX).obj.cell 1 rfl
              obtain ⟨r0, r1, r2, r3, r4, r5, r6, -, -, -, -, -⟩ := HRow.out
              clear hrow hr e5
              have hz1 : IntKind.i64.wrap z = z := by rw [IntKind.wrap_i64]; omega
              have hz3 : IntKind.i64.wrap (q : Int) = (q : Int) := by rw [IntKind.wrap_i64]; omega
              have hz4 : (0 : Int) ≤ (q : Int) := by omega
              have hz5 : ¬ (q : Int) < 0 := by omega
              go_upto_region 25 with fail
              go_region_with (first
                | (go_at_call 18; refine CKF.mono ?_; rintro e v1 ⟨rfl, hkf, b1', c9', ⟨y0, y1, y2⟩, hfz⟩))
              all_goals
                clear b1 b1' c9 c9' y0 y1 y2 hfz r0 r1 r2 r3 r4 r5 r6 CKF hz1 hz3 hz4 hz5
                obtain ⟨K, hK⟩ : ∃ K : KeyZ, keyZ r.2.head = K := ⟨_, rfl⟩
                have HY1 : Hid (Var (((v1.setCell ⟨kb, 0, none⟩ (.int .i64 r.2.head.kind)).setCell ⟨kb, 1, none⟩ (.int .i64 r.2.head.id)).setCell ⟨kb, 2, none⟩ (.int .i64 r.2.head.adv)) kb [.int .i64 K.kind, .int .i64 K.id, .int .i64 K.adv]) := by
                  rw [← hK]
                  exact ((hkf.out.2.set 0 _).set 1 _).set 2 _
                have HY0 : Hid (Below wr.heap.size wr (((v1.setCell ⟨kb, 0, none⟩ (.int .i64 r.2.head.kind)).setCell ⟨kb, 1, none⟩ (.int .i64 r.2.head.id)).setCell ⟨kb, 2, none⟩ (.int .i64 r.2.head.adv))) := by
                  have hx : ∀ j, wr.heap.size ≤ (⟨kb, j, none⟩ : Addr).block := fun j => by show _ ≤ kb; rw [HKB.out]; exact Nat.le_refl _
                  exact ((hkf.out.1.setCell (hx 0) _).setCell (hx 1) _).setCell (hx 2) _
                clear hkf hK HKQ2
                generalize (((v1.setCell ⟨kb, 0, none⟩ (.int .i64 r.2.head.kind)).setCell ⟨kb, 1, none⟩ (.int .i64 r.2.head.id)).setCell ⟨kb, 2, none⟩ (.int .i64 r.2.head.adv)) = Y at *
                have HBY : Hid (Below wr.heap.size wr Y) := HY0.out
                have HVY : Hid (Var Y kb [.int .i64 K.kind, .int .i64 K.id, .int .i64 K.adv]) := HY1.out
                have CK1 : Calls _ _ _ _ _ := (kill_step V.heap.size V.heap.size lv1 L1 K Y.drew (HS1.out.1.below HBY.out.drew)).mono (R' := fun e w' => e = .returned (.bool (killB Z K)) ∧ Hid (∃ lv1' L1', Keeps w' V.heap.size V.heap.size 100 lv1' L1' ∧ (L1'.map fun r => r.2) = killZ Z K ∧ Keeps w' V.heap.size (V.heap.size + 1) 100 lv2 L2 ∧ Apart V.heap.size lv1' L1' (V.heap.size + 1) lv2 L2 ∧ Below V.heap.size V w' ∧ V.heap.size ≤ w'.heap.size) ∧ Var w' kb [.int .i64 K.kind, .int .i64 K.id, .int .i64 K.adv]) fun e w' h => by
                  obtain ⟨rfl, lv', L', k1, k2, k3, k4⟩ := h
                  have hd : Below wr.heap.size wr Y.drew := HBY.out.drew
                  obtain ⟨m1, m2⟩ := HS3.out.turn (HS1.out.1.below hd) (HS2.out.1.below hd) k3 k4
                  have hwd : Below V.heap.size V Y.drew := below_more HS4.out.1 hd HS4.out.2
                  have hnd : V.heap.size ≤ Y.drew.heap.size := Nat.le_trans HS4.out.2 hd.size
                  rw [HS1.out.2] at k2 ⊢
                  refine ⟨rfl, ⟨lv', L', k1, k2, m1, m2, (HS1.out.1.below hd).below_turned2 hwd hnd k3, Nat.le_trans hnd k3.size⟩, ?_⟩
                  exact (HVY.out.below (Below.refl _ _).drew HVY.out.lt).turned k3 (by have := HS1.out.1.obj.lt; have := HKB.out; omega) (fun x hx => by have := HS1.out.1.own_lt x hx; have := HKB.out; omega)
                have CK2 : Hid (∀ v1, (∃ lv1' L1', Keeps v1 V.heap.size V.heap.size 100 lv1' L1' ∧ (L1'.map fun r => r.2) = killZ Z K ∧ Keeps v1 V.heap.size (V.heap.size + 1) 100 lv2 L2 ∧ Apart V.heap.size lv1' L1' (V.heap.size + 1) lv2 L2 ∧ Below V.heap.size V v1 ∧ V.heap.size ≤ v1.heap.size) → Calls Try.prog 20 #[.pointer (some ⟨V.heap.size + 1, 0, none⟩), .agg (keyV K)] v1 fun e w' => e = .returned (.bool (killB Z K)) ∧ Hid (Both V w' V.heap.size V.heap.size (V.heap.size + 1) (killZ Z K))) := by
                  intro v1 ⟨lv', L', k1, k2, m1, m2, q1, q2⟩
                  refine (dkill_step V.heap.size (V.heap.size + 1) lv2 L2 K v1 m1).mono ?_
                  rintro e w' ⟨rfl, lv9, L9, n1, n2, n3, n4⟩
                  obtain ⟨p1, p2⟩ := m2.swap.turn m1 k1 n3 n4
                  rw [HS2.out.2] at n2 ⊢
                  exact ⟨rfl, lv', L', lv9, L9, p1, n1, k2, n2, p2.swap, m1.below_turned2 q1 q2 n3, Nat.le_trans q2 n3.size⟩
                have d0 := HVY.out.cell 0 rfl
                have d1 := HVY.out.cell 1 rfl
                have d2 := HVY.out.cell 2 rfl
                generalize hkb' : killB Z K = d at CK1 CK2
                generalize killZ Z K = Z' at CK1 CK2
                clear hkb' HVY HY0 HY1
                go_upto_region 26 with fail
                go_region_with (first
                  | (go_at_call 19; refine CK1.mono ?_; rintro e v1 ⟨rfl, hk1, hv1⟩; have d0' := hv1.cell 0 rfl; have d1' := hv1.cell 1 rfl; have d2' := hv1.cell 2 rfl)
                  | (go_at_call 20; refine (CK2.out v1 hk1.out).mono ?_; rintro e v2 ⟨rfl, hk2⟩))
                all_goals
                  clear d0 d1 d2 d0' d1' d2' CK1 CK2 hk1 hv1
                  have HBO : Hid (Both V v2 V.heap.size V.heap.size (V.heap.size + 1) Z') := hk2.out
                  clear hk2 HS1 HS2 HS3 HBO1
                  obtain ⟨Z, rfl⟩ : ∃ Z, Z = Z' := ⟨_, rfl⟩
                  cases d
                  all_goals
                    obtain ⟨lv1, L1, lv2, L2, h1, h2, e1, e2, -, -, -⟩ := HBO.out
                    have HL : Hid (Z.length ≤ 1000000) := HBO.out.len
                    have CO1 := old_any V.heap.size V.heap.size 100 lv1 L1 adv v2 h1
                    unfold KeysEnd at CO1
                    rw [heads_as, e1] at CO1
                    have HH2 : Hid (Keeps v2 V.heap.size (V.heap.size + 1) 100 lv2 L2 ∧ (L2.map fun r => r.2) = Z) := ⟨h2, e2⟩
                    have HH1 : Hid (Keeps v2 V.heap.size V.heap.size 100 lv1 L1 ∧ (L1.map fun r => r.2) = Z) := ⟨h1, e1⟩
                    clear h1 h2 e1 e2
                    go_wp2_with fail
                    refine CO1.mono ?_
                    rintro e o1 ⟨v, rfl, hk, hb⟩
                    obtain ⟨a1, c1, rfl, -⟩ := hk.lies
                    have HK1 : Hid (OwnK o1 v2.heap.size (.slice a1 (keysOf (oldH adv) (Z.map fun l => l.head)).length c1) (keysOf (oldH adv) (Z.map fun l => l.head))) := hk
                    have HO1 : Hid (Below v2.heap.size v2 o1) := hb
                    clear hk hb CO1
                    have CO2 := dold_any V.heap.size (V.heap.size + 1) 100 lv2 L2 adv o1 (HH2.out.1.below HO1.out)
                    unfold KeysEnd at CO2
                    rw [heads_as, HH2.out.2] at CO2
                    go_wp2_with fail
                    refine CO2.mono ?_
                    rintro e o2 ⟨v, rfl, hk, hb⟩
                    obtain ⟨a2, c2, rfl, hl2⟩ := hk.lies
                    have HO2 : Hid (Below v2.heap.size v2 o2) := HO1.out.trans (hb.mono HO1.out.size)
                    have hkl : (keysOf (oldH adv) (Z.map fun l => l.head)).length ≤ 1000000 := by
                      have := keysOf_len (oldH adv) (Z.map fun l => l.head)
                      rw [List.length_map] at this
                      have := HL.out; omega
                    have hl1 := own_lies (own_below HK1.out hb)
                    have CC := dkeys_any a1 a2 c1 c2 _ o2 hl1 hl2 hkl
                    clear hk hb CO2 HK1 hl1 hl2
                    go_wp2_with fail
                    refine CC.mono ?_
                    rintro e o3 ⟨rfl, hb⟩
                    have HO3 : Hid (Below v2.heap.size v2 o3) := HO2.out.trans (hb.mono HO2.out.size)
                    clear hb CC HO2 HO1
                    have CD1 := dead_any V.heap.size V.heap.size 100 lv1 L1 o3 (HH1.out.1.below HO3.out)
                    unfold KeysEnd at CD1
                    rw [heads_as, HH1.out.2] at CD1
                    go_wp2_with fail
                    refine CD1.mono ?_
                    rintro e o4 ⟨v, rfl, hk, hb⟩
                    obtain ⟨a3, c3, rfl, -⟩ := hk.lies
                    have HK3 : Hid (OwnK o4 o3.heap.size (.slice a3 (keysOf deadH (Z.map fun l => l.head)).length c3) (keysOf deadH (Z.map fun l => l.head))) := hk
                    have HO4 : Hid (Below v2.heap.size v2 o4) := HO3.out.trans (hb.mono HO3.out.size)
                    clear hk hb CD1
                    have CD2 := ddead_any V.heap.size (V.heap.size + 1) 100 lv2 L2 o4 (HH2.out.1.below HO4.out)
                    unfold KeysEnd at CD2
                    rw [heads_as, HH2.out.2] at CD2
                    go_wp2_with fail
                    refine CD2.mono ?_
                    rintro e o5 ⟨v, rfl, hk, hb⟩
                    obtain ⟨a4, c4, rfl, hl4⟩ := hk.lies
                    have HO5 : Hid (Below v2.heap.size v2 o5) := HO4.out.trans (hb.mono HO4.out.size)
                    have hkl2 : (keysOf deadH (Z.map fun l => l.head)).length ≤ 1000000 := by
                      have := keysOf_len deadH (Z.map fun l => l.head)
                      rw [List.length_map] at this
                      have := HL.out; omega
                    have hl3 := own_lies (own_below HK3.out hb)
                    have CC := dkeys_any a3 a4 c3 c4 _ o5 hl3 hl4 hkl2
                    clear hk hb CD2 HK3 hl3 hl4 hkl
                    go_wp2_with fail
                    refine CC.mono ?_
                    rintro e o6 ⟨rfl, hb⟩
                    have HBN : Hid (∃ Z, Both V o6 V.heap.size V.heap.size (V.heap.size + 1) Z) := ⟨Z, HBO.out.below (HO5.out.trans (hb.mono HO5.out.size))⟩
                    clear hb CC HO5 HO4 HO3 HH1 HH2 HBO HL hkl2
                    go_wp2
                    go_roundw
                    case rel => exact ⟨i + 1, by omega, by go_num, HBN⟩
                    case measure => simp [intOf]; omega
            · have hqI : ¬ (q : Int) < (L2.length : Int) := by omega
              have HY0 : Hid (Below wr.heap.size wr WQ) := HWQ.out
              have HY1 : Hid (Var WQ kb [.int .i64 k.kind, .int .i64 k.id, .int .i64 k.adv]) := HKQ.out
              clear HWQ HKQ
              obtain ⟨K, rfl⟩ : ∃ K, K = k := ⟨_, rfl⟩
              obtain ⟨Y, rfl⟩ : ∃ Y, Y = WQ := ⟨_, rfl⟩
              have HBY : Hid (Below wr.heap.size wr Y) := HY0.out
              have HVY : Hid (Var Y kb [.int .i64 K.kind, .int .i64 K.id, .int .i64 K.adv]) := HY1.out
              have CK1 : Calls _ _ _ _ _ := (kill_step V.heap.size V.heap.size lv1 L1 K Y.drew (HS1.out.1.below HBY.out.drew)).mono (R' := fun e w' => e = .returned (.bool (killB Z K)) ∧ Hid (∃ lv1' L1', Keeps w' V.heap.size V.heap.size 100 lv1' L1' ∧ (L1'.map fun r => r.2) = killZ Z K ∧ Keeps w' V.heap.size (V.heap.size + 1) 100 lv2 L2 ∧ Apart V.heap.size lv1' L1' (V.heap.size + 1) lv2 L2 ∧ Below V.heap.size V w' ∧ V.heap.size ≤ w'.heap.size) ∧ Var w' kb [.int .i64 K.kind, .int .i64 K.id, .int .i64 K.adv]) fun e w' h => by
                obtain ⟨rfl, lv', L', k1, k2, k3, k4⟩ := h
                have hd : Below wr.heap.size wr Y.drew := HBY.out.drew
                obtain ⟨m1, m2⟩ := HS3.out.turn (HS1.out.1.below hd) (HS2.out.1.below hd) k3 k4
                have hwd : Below V.heap.size V Y.drew := below_more HS4.out.1 hd HS4.out.2
                have hnd : V.heap.size ≤ Y.drew.heap.size := Nat.le_trans HS4.out.2 hd.size
                rw [HS1.out.2] at k2 ⊢
                refine ⟨rfl, ⟨lv', L', k1, k2, m1, m2, (HS1.out.1.below hd).below_turned2 hwd hnd k3, Nat.le_trans hnd k3.size⟩, ?_⟩
                exact (HVY.out.below (Below.refl _ _).drew HVY.out.lt).turned k3 (by have := HS1.out.1.obj.lt; have := HKB.out; omega) (fun x hx => by have := HS1.out.1.own_lt x hx; have := HKB.out; omega)
              have CK2 : Hid (∀ v1, (∃ lv1' L1', Keeps v1 V.heap.size V.heap.size 100 lv1' L1' ∧ (L1'.map fun r => r.2) = killZ Z K ∧ Keeps v1 V.heap.size (V.heap.size + 1) 100 lv2 L2 ∧ Apart V.heap.size lv1' L1' (V.heap.size + 1) lv2 L2 ∧ Below V.heap.size V v1 ∧ V.heap.size ≤ v1.heap.size) → Calls Try.prog 20 #[.pointer (some ⟨V.heap.size + 1, 0, none⟩), .agg (keyV K)] v1 fun e w' => e = .returned (.bool (killB Z K)) ∧ Hid (Both V w' V.heap.size V.heap.size (V.heap.size + 1) (killZ Z K))) := by
                intro v1 ⟨lv', L', k1, k2, m1, m2, q1, q2⟩
                refine (dkill_step V.heap.size (V.heap.size + 1) lv2 L2 K v1 m1).mono ?_
                rintro e w' ⟨rfl, lv9, L9, n1, n2, n3, n4⟩
                obtain ⟨p1, p2⟩ := m2.swap.turn m1 k1 n3 n4
                rw [HS2.out.2] at n2 ⊢
                exact ⟨rfl, lv', L', lv9, L9, p1, n1, k2, n2, p2.swap, m1.below_turned2 q1 q2 n3, Nat.le_trans q2 n3.size⟩
              have d0 := HVY.out.cell 0 rfl
              have d1 := HVY.out.cell 1 rfl
              have d2 := HVY.out.cell 2 rfl
              generalize hkb' : killB Z K = d at CK1 CK2
              generalize killZ Z K = Z' at CK1 CK2
              clear hkb' HVY HY0 HY1
              go_upto_region 26 with fail
              go_region_with (first
                | (go_at_call 19; refine CK1.mono ?_; rintro e v1 ⟨rfl, hk1, hv1⟩; have d0' := hv1.cell 0 rfl; have d1' := hv1.cell 1 rfl; have d2' := hv1.cell 2 rfl)
                | (go_at_call 20; refine (CK2.out v1 hk1.out).mono ?_; rintro e v2 ⟨rfl, hk2⟩))
              all_goals
                clear d0 d1 d2 d0' d1' d2' CK1 CK2 hk1 hv1
                have HBO : Hid (Both V v2 V.heap.size V.heap.size (V.heap.size + 1) Z') := hk2.out
                clear hk2 HS1 HS2 HS3 HBO1
                obtain ⟨Z, rfl⟩ : ∃ Z, Z = Z' := ⟨_, rfl⟩
                cases d
                all_goals
                  obtain ⟨lv1, L1, lv2, L2, h1, h2, e1, e2, -, -, -⟩ := HBO.out
                  have HL : Hid (Z.length ≤ 1000000) := HBO.out.len
                  have CO1 := old_any V.heap.size V.heap.size 100 lv1 L1 adv v2 h1
                  unfold KeysEnd at CO1
                  rw [heads_as, e1] at CO1
                  have HH2 : Hid (Keeps v2 V.heap.size (V.heap.size + 1) 100 lv2 L2 ∧ (L2.map fun r => r.2) = Z) := ⟨h2, e2⟩
                  have HH1 : Hid (Keeps v2 V.heap.size V.heap.size 100 lv1 L1 ∧ (L1.map fun r => r.2) = Z) := ⟨h1, e1⟩
                  clear h1 h2 e1 e2
                  go_wp2_with fail
                  refine CO1.mono ?_
                  rintro e o1 ⟨v, rfl, hk, hb⟩
                  obtain ⟨a1, c1, rfl, -⟩ := hk.lies
                  have HK1 : Hid (OwnK o1 v2.heap.size (.slice a1 (keysOf (oldH adv) (Z.map fun l => l.head)).length c1) (keysOf (oldH adv) (Z.map fun l => l.head))) := hk
                  have HO1 : Hid (Below v2.heap.size v2 o1) := hb
                  clear hk hb CO1
                  have CO2 := dold_any V.heap.size (V.heap.size + 1) 100 lv2 L2 adv o1 (HH2.out.1.below HO1.out)
                  unfold KeysEnd at CO2
                  rw [heads_as, HH2.out.2] at CO2
                  go_wp2_with fail
                  refine CO2.mono ?_
                  rintro e o2 ⟨v, rfl, hk, hb⟩
                  obtain ⟨a2, c2, rfl, hl2⟩ := hk.lies
                  have HO2 : Hid (Below v2.heap.size v2 o2) := HO1.out.trans (hb.mono HO1.out.size)
                  have hkl : (keysOf (oldH adv) (Z.map fun l => l.head)).length ≤ 1000000 := by
                    have := keysOf_len (oldH adv) (Z.map fun l => l.head)
                    rw [List.length_map] at this
                    have := HL.out; omega
                  have hl1 := own_lies (own_below HK1.out hb)
                  have CC := dkeys_any a1 a2 c1 c2 _ o2 hl1 hl2 hkl
                  clear hk hb CO2 HK1 hl1 hl2
                  go_wp2_with fail
                  refine CC.mono ?_
                  rintro e o3 ⟨rfl, hb⟩
                  have HO3 : Hid (Below v2.heap.size v2 o3) := HO2.out.trans (hb.mono HO2.out.size)
                  clear hb CC HO2 HO1
                  have CD1 := dead_any V.heap.size V.heap.size 100 lv1 L1 o3 (HH1.out.1.below HO3.out)
                  unfold KeysEnd at CD1
                  rw [heads_as, HH1.out.2] at CD1
                  go_wp2_with fail
                  refine CD1.mono ?_
                  rintro e o4 ⟨v, rfl, hk, hb⟩
                  obtain ⟨a3, c3, rfl, -⟩ := hk.lies
                  have HK3 : Hid (OwnK o4 o3.heap.size (.slice a3 (keysOf deadH (Z.map fun l => l.head)).length c3) (keysOf deadH (Z.map fun l => l.head))) := hk
                  have HO4 : Hid (Below v2.heap.size v2 o4) := HO3.out.trans (hb.mono HO3.out.size)
                  clear hk hb CD1
                  have CD2 := ddead_any V.heap.size (V.heap.size + 1) 100 lv2 L2 o4 (HH2.out.1.below HO4.out)
                  unfold KeysEnd at CD2
                  rw [heads_as, HH2.out.2] at CD2
                  go_wp2_with fail
                  refine CD2.mono ?_
                  rintro e o5 ⟨v, rfl, hk, hb⟩
                  obtain ⟨a4, c4, rfl, hl4⟩ := hk.lies
                  have HO5 : Hid (Below v2.heap.size v2 o5) := HO4.out.trans (hb.mono HO4.out.size)
                  have hkl2 : (keysOf deadH (Z.map fun l => l.head)).length ≤ 1000000 := by
                    have := keysOf_len deadH (Z.map fun l => l.head)
                    rw [List.length_map] at this
                    have := HL.out; omega
                  have hl3 := own_lies (own_below HK3.out hb)
                  have CC := dkeys_any a3 a4 c3 c4 _ o5 hl3 hl4 hkl2
                  clear hk hb CD2 HK3 hl3 hl4 hkl
                  go_wp2_with fail
                  refine CC.mono ?_
                  rintro e o6 ⟨rfl, hb⟩
                  have HBN : Hid (∃ Z, Both V o6 V.heap.size V.heap.size (V.heap.size + 1) Z) := ⟨Z, HBO.out.below (HO5.out.trans (hb.mono HO5.out.size))⟩
                  clear hb CC HO5 HO4 HO3 HH1 HH2 HBO HL hkl2
                  go_wp2
                  go_roundw
                  case rel => exact ⟨i + 1, by omega, by go_num, HBN⟩
                  case measure => simp [intOf]; omega
          · have hmt : z.tmod 4 = 3 := by rw [Int.tmod_eq_emod_of_nonneg hzm.1]; exact hm
            clear h1 h2 e1 e2 ha hw' hn HCELL
            have HBO : Hid (Both V wr V.heap.size V.heap.size (V.heap.size + 1) Z) := HBO1.out
            clear HBO1
            obtain ⟨lv1, L1, lv2, L2, h1, h2, e1, e2, -, -, -⟩ := HBO.out
            have HL : Hid (Z.length ≤ 1000000) := HBO.out.len
            have CO1 := old_any V.heap.size V.heap.size 100 lv1 L1 adv wr h1
            unfold KeysEnd at CO1
            rw [heads_as, e1] at CO1
            have HH2 : Hid (Keeps wr V.heap.size (V.heap.size + 1) 100 lv2 L2 ∧ (L2.map fun r => r.2) = Z) := ⟨h2, e2⟩
            have HH1 : Hid (Keeps wr V.heap.size V.heap.size 100 lv1 L1 ∧ (L1.map fun r => r.2) = Z) := ⟨h1, e1⟩
            clear h1 h2 e1 e2
            go_wp2_with fail
            refine CO1.mono ?_
            rintro e o1 ⟨v, rfl, hk, hb⟩
            obtain ⟨a1, c1, rfl, -⟩ := hk.lies
            have HK1 : Hid (OwnK o1 wr.heap.size (.slice a1 (keysOf (oldH adv) (Z.map fun l => l.head)).length c1) (keysOf (oldH adv) (Z.map fun l => l.head))) := hk
            have HO1 : Hid (Below wr.heap.size wr o1) := hb
            clear hk hb CO1
            have CO2 := dold_any V.heap.size (V.heap.size + 1) 100 lv2 L2 adv o1 (HH2.out.1.below HO1.out)
            unfold KeysEnd at CO2
            rw [heads_as, HH2.out.2] at CO2
            go_wp2_with fail
            refine CO2.mono ?_
            rintro e o2 ⟨v, rfl, hk, hb⟩
            obtain ⟨a2, c2, rfl, hl2⟩ := hk.lies
            have HO2 : Hid (Below wr.heap.size wr o2) := HO1.out.trans (hb.mono HO1.out.size)
            have hkl : (keysOf (oldH adv) (Z.map fun l => l.head)).length ≤ 1000000 := by
              have := keysOf_len (oldH adv) (Z.map fun l => l.head)
              rw [List.length_map] at this
              have := HL.out; omega
            have hl1 := own_lies (own_below HK1.out hb)
            have CC := dkeys_any a1 a2 c1 c2 _ o2 hl1 hl2 hkl
            clear hk hb CO2 HK1 hl1 hl2
            go_wp2_with fail
            refine CC.mono ?_
            rintro e o3 ⟨rfl, hb⟩
            have HO3 : Hid (Below wr.heap.size wr o3) := HO2.out.trans (hb.mono HO2.out.size)
            clear hb CC HO2 HO1
            have CD1 := dead_any V.heap.size V.heap.size 100 lv1 L1 o3 (HH1.out.1.below HO3.out)
            unfold KeysEnd at CD1
            rw [heads_as, HH1.out.2] at CD1
            go_wp2_with fail
            refine CD1.mono ?_
            rintro e o4 ⟨v, rfl, hk, hb⟩
            obtain ⟨a3, c3, rfl, -⟩ := hk.lies
            have HK3 : Hid (OwnK o4 o3.heap.size (.slice a3 (keysOf deadH (Z.map fun l => l.head)).length c3) (keysOf deadH (Z.map fun l => l.head))) := hk
            have HO4 : Hid (Below wr.heap.size wr o4) := HO3.out.trans (hb.mono HO3.out.size)
            clear hk hb CD1
            have CD2 := ddead_any V.heap.size (V.heap.size + 1) 100 lv2 L2 o4 (HH2.out.1.below HO4.out)
            unfold KeysEnd at CD2
            rw [heads_as, HH2.out.2] at CD2
            go_wp2_with fail
            refine CD2.mono ?_
            rintro e o5 ⟨v, rfl, hk, hb⟩
            obtain ⟨a4, c4, rfl, hl4⟩ := hk.lies
            have HO5 : Hid (Below wr.heap.size wr o5) := HO4.out.trans (hb.mono HO4.out.size)
            have hkl2 : (keysOf deadH (Z.map fun l => l.head)).length ≤ 1000000 := by
              have := keysOf_len deadH (Z.map fun l => l.head)
              rw [List.length_map] at this
              have := HL.out; omega
            have hl3 := own_lies (own_below HK3.out hb)
            have CC := dkeys_any a3 a4 c3 c4 _ o5 hl3 hl4 hkl2
            clear hk hb CD2 HK3 hl3 hl4 hkl
            go_wp2_with fail
            refine CC.mono ?_
            rintro e o6 ⟨rfl, hb⟩
            have HBN : Hid (∃ Z, Both V o6 V.heap.size V.heap.size (V.heap.size + 1) Z) := ⟨Z, HBO.out.below (HO5.out.trans (hb.mono HO5.out.size))⟩
            clear hb CC HO5 HO4 HO3 HH1 HH2 HBO HL hkl2
            go_wp2
            go_roundw
            case rel => exact ⟨i + 1, by omega, by go_num, HBN⟩
            case measure => simp [intOf]; omega
        · obtain rfl : i = zs.length := by omega
          have hnl : ¬ ((zs.length : Int) < (zs.length : Int)) := by omega
          obtain ⟨Z, lv1, L1, lv2, L2, h1, h2, e1, e2, ha, hw', hn⟩ := HBO.out
          have HA : Hid (Below V.heap.size V wr ∧ V.heap.size ≤ wr.heap.size) := ⟨hw', hn⟩
          obtain ⟨a2, c2, hlv2, hli2, -, -, -, -⟩ := h2.lies
          have hll : L2.length = L1.length := by
            have := congrArg List.length (e1.trans e2.symm)
            rw [List.length_map, List.length_map] at this; exact this.symm
          have hle : L1.length ≤ 1000000 := h1.len
          rw [hll] at hlv2
          have b1 := (h2.below (Below.refl wr.heap.size wr).drew).obj.cell 1 rfl
          rw [hlv2] at b1
          have HB2 : Hid (∀ X, Below wr.heap.size wr X → X.cell? ⟨V.heap.size + 1, 1, none⟩ = some (.slice a2 L1.length c2)) := fun X hX => by rw [← hlv2]; exact (h2.below hX).obj.cell 1 rfl
          have HH2 : Hid (RowsIn wr a2 L2) := ⟨hli2, fun r hr => ⟨h2.held r hr, h2.mid r hr⟩⟩
          have CA : Calls _ _ _ _ _ := (all_any V.heap.size V.heap.size 100 lv1 L1 wr.drew (h1.below (Below.refl _ _).drew)).mono (R' := fun e w' => ∃ g c, e = .returned (.slice (some ⟨g, 0, none⟩) L1.length c) ∧ Hid (Below wr.heap.size wr w' ∧ ∀ X, Below w'.heap.size w' X → Calls Try.prog 25 #[.slice (some ⟨g, 0, none⟩) L1.length c, .slice a2 L1.length c2] X fun e w'' => e = .returned (.bool true) ∧ Below X.heap.size X w'') ∧ w'.cell? ⟨V.heap.size + 1, 1, none⟩ = some (.slice a2 L1.length c2)) fun e w' h => by
            obtain ⟨g, c, R, rfl, hg, hRl, hown, hR, hb⟩ := h
            have hX : Below wr.heap.size wr w' := ((Below.refl _ _).drew).trans hb
            refine ⟨g, c, rfl, ⟨hX, fun X hXX => ?_⟩, HB2.out w' hX⟩
            have hRI : RowsIn w' (some ⟨g, 0, none⟩) R := ⟨owns_lies hown, fun r hr => by
              obtain ⟨j, hj, rfl⟩ := List.getElem_of_mem hr
              obtain ⟨q1, q2⟩ := hR j (by rw [← hRl]; exact hj) hj
              exact ⟨q2.1, by rw [q1]; exact h1.mid _ (List.getElem_mem _)⟩⟩
            have hmap : R.map (fun r => r.2) = L2.map (fun r => r.2) := by
              rw [e2, ← e1]
              refine List.ext_getElem (by simp [hRl]) fun j h1 h2 => ?_
              simp only [List.length_map] at h1 h2
              simp only [List.getElem_map]
              exact (hR j h2 h1).1
            exact dlsas_any _ _ c c2 L1.length R L2 X (hRI.below hXX) (HH2.out.below (hX.trans (hXX.mono hX.size))) hRl.symm hll.symm hmap hle
          clear h1 h2 e1 e2 ha hw' hn hlv2 hli2 hll HBO
          go_upto_region 30 with fail
          go_region_with (first
            | (go_at_call 26; refine CA.mono ?_; rintro e v1 ⟨g, c, rfl, hv, b1'⟩)
            | (go_at_call 25; refine (hv.out.2 _ (Below.refl _ _)).mono ?_; rintro e v2 ⟨rfl, hv2⟩)
            | (go_at_call 7; refine (awake9_any _).mono ?_; rintro e v3 ⟨rfl, hv3⟩))
          all_goals
            have HEND : Hid (Below w.heap.size w v3) := HW.out.trans ((HA.out.1.trans ((hv.out.1.trans ((hv2.trans (hv3.mono hv2.size)).mono hv.out.1.size)).mono HA.out.2)).mono HW.out.size)
            clear b1 b1' CA hv hv2 hv3
            go_wp2
            go_ret
            exact ⟨rfl, HEND.out⟩
end Go.Proofs.Ytbogphhbjmapgaa
