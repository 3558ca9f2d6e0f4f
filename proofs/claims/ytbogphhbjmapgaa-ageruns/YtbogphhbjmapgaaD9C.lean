/- The document's Old and Dead. -/
import Derived.Test.YtbogphhbjmapgaaD9B
import Derived.Test.YtbogphhbjmapgaaS9W6
namespace Go.Proofs.Ytbogphhbjmapgaa
open Go.RowKit
set_option linter.unusedVariables false

set_option maxHeartbeats 6400000 in
set_option maxRecDepth 20000 in
theorem ddead_any (N b : Nat) (most : Int) (lv : Value) (L : List Row) (w : World) (h : Keeps w N b most lv L) :
    Calls Try.prog 24 #[.pointer (some ⟨b, 0, none⟩)] w (KeysEnd w deadH L) := by
  have HLN : Hid (L.length ≤ 1000000) := h.len
  have HK : Hid (Keeps w N b most lv L) := h
  obtain ⟨a, c, hlv, -, hLc, -, -, -⟩ := h.lies
  have HLV : Hid (lv = .slice a L.length c) := hlv
  have hlc : L.length ≤ c := hLc
  obtain ⟨ki, hki, hkz0, hkz1, hkz2⟩ := info_parts info_key
  have HI : Hid (Try.prog.info? 25 = some ki) := hki
  have H0 : Hid (_ = _) := hkz0
  have H1 : Hid (_ = _) := hkz1
  have H2 : Hid (_ = _) := hkz2
  clear h hki hkz0 hkz1 hkz2 hlv hLc
  go_enter Try.func24, Try.ntmps24
  go_wp2_with fail
  go_loopw [3, 4] (fun u t wr => ∃ i : Nat, i ≤ L.length ∧ t = .int .i64 (i : Int) ∧ Hid (OwnK wr w.heap.size u (keysOf deadH ((L.map fun r => r.2.head).take i))) ∧ Hid (Below w.heap.size w wr)) (fun _ t _ => L.length - (intOf t).toNat)
  case atStart => exact ⟨0, by omega, rfl, World.ownsRow_nil _ _ _ _, Below.refl _ _⟩
  case round =>
    obtain ⟨i, hi, rfl, HD, HB⟩ := hrel
    have b1 := (HK.out.below HB.out).obj.cell 1 rfl
    rw [HLV.out] at b1
    have hln : L.length ≤ 1000000 := HLN.out
    have hlcI : (L.length : Int) ≤ (c : Int) := by omega
    by_cases hlt : i < L.length
    · have hiI : (i : Int) < (L.length : Int) := by omega
      obtain ⟨g, c', e, -, -, -, hrow, -⟩ := (HK.out.below HB.out).at i hlt
      obtain rfl : a = some ⟨g, 0, none⟩ := by
        have e2 := HLV.out
        rw [e] at e2
        simp only [Value.slice.injEq] at e2
        exact e2.1.symm
      clear e
      have HAG : Hid (0 ≤ L[i].2.head.age ∧ L[i].2.head.age ≤ 3600) := sealed_age (HK.out.shut _ (List.getElem_mem hlt))
      have HKY : Hid (keysOf deadH ((L.map fun r => r.2.head).take (i + 1)) = keysOf deadH ((L.map fun r => r.2.head).take i) ++ (if deadH L[i].2.head then [keyZ L[i].2.head] else [])) := by
        show _ = _
        rw [keysOf_take _ _ _ (by rw [List.length_map]; exact hlt), List.getElem_map]
      have HKL : Hid ((keysOf deadH ((L.map fun r => r.2.head).take i)).length ≤ 1000000) := by
        show _ ≤ _
        have := keysOf_len deadH ((L.map fun r => r.2.head).take i)
        rw [List.length_take, List.length_map] at this
        omega
      generalize L[i] = r at *
      obtain ⟨sr, l⟩ := r
      replace HAG : Hid (0 ≤ l.head.age ∧ l.head.age ≤ 3600) := HAG
      replace HKY : Hid (keysOf deadH ((L.map fun r => r.2.head).take (i + 1)) = keysOf deadH ((L.map fun r => r.2.head).take i) ++ (if deadH l.head then [keyZ l.head] else [])) := HKY
      obtain ⟨c0, c1, c2, c3, c4, c5, c6, c7, c8, c9, c10, c11⟩ := hrow
      have HBV : Hid (Below w.heap.size w wr) := HB.out
      have HDV : Hid (OwnK wr w.heap.size u3 (keysOf deadH ((L.map fun r => r.2.head).take i))) := HD.out
      have hag := HAG.out
      clear HD HB
      by_cases hd : l.head.age = 3600
      · have hpp : deadH l.head = true := by unfold deadH deadB; simp; omega
        have CK := dkeyOf_any l.head
        unfold headA at CK
        rw [hd] at c0 CK
        clear hag
        go_wp2_with fail
        refine (CK _).mono ?_
        rintro e w5 ⟨rfl, hb5⟩
        clear c0 c1 c2 c3 c4 c5 c6 c7 c8 c9 c10 c11 CK b1
        obtain ⟨k, hk⟩ : ∃ k, keyZ l.head = k := ⟨_, rfl⟩
        have HKQ : Hid (keyZ l.head = k) := hk
        have HB5 : Hid (Below wr.heap.size wr w5) := hb5
        rw [show (#[.int .i64 l.head.kind, .int .i64 l.head.id, .int .i64 l.head.adv] : Array Value) = keyV (keyZ l.head) from rfl, hk]
        clear hb5 hk
        have HB6 : Hid (Below w.heap.size w (w5.alloc (.cells #[.int .i64 k.kind, .int .i64 k.id, .int .i64 k.adv] 25))) := below_more HBV.out (HB5.out.alloc HB5.out.size _) HBV.out.size
        have HD6 : Hid (OwnK (w5.alloc (.cells #[.int .i64 k.kind, .int .i64 k.id, .int .i64 k.adv] 25)) w.heap.size u3 (keysOf deadH ((L.map fun r => r.2.head).take i))) := own_below HDV.out (HB5.out.alloc HB5.out.size _)
        have HL6 : Hid (Lies (w5.alloc (.cells #[.int .i64 k.kind, .int .i64 k.id, .int .i64 k.adv] 25)) (some ⟨w5.heap.size, 0, none⟩) (keyC k)) := lies_new w5 (keyC k) _
        have hkl := HKL.out
        have hsz := HB6.out.size
        clear HBV HDV HB5
        go_wp2_with (at_builtin; go_must (refine wpList_append_hence (w5.alloc (.cells #[.int .i64 k.kind, .int .i64 k.id, .int .i64 k.adv] 25)) rfl _ _ 47 rfl w.heap.size 25 ki _ 3 24 Try.underlying47 HI.out H0.out H1.out H2.out rfl (by decide) u3 _ _ rfl HD6.out _ 1 _ (keyC k) rfl rfl HL6.out.at (fun u hu => by simp [keyC] at hu; rcases hu with rfl | rfl | rfl <;> rfl) (by unfold maxLen; omega) (by omega) hsz ?_))
        intro v' w6 ho6 hg6 hh6
        have HB7 : Hid (Below w.heap.size w w6) := HB6.out.trans ((Below.refl _ _).grown hg6 hsz (fun k hk => (World.ownsRow.lt HD6.out k hk).1))
        have HD7 : Hid (OwnK w6 w.heap.size v' (keysOf deadH ((L.map fun r => r.2.head).take (i + 1)))) := by
          show OwnK _ _ _ _
          rw [HKY.out, hpp, HKQ.out]
          simp only [if_true]
          exact ownK_snoc ho6
        clear HB6 HD6 HL6 ho6 hg6 hh6 HKY
        go_wp2
        go_roundw
        case rel => exact ⟨i + 1, by omega, by go_num, HD7, HB7⟩
        case measure => simp [intOf]; omega

      · have hpp : deadH l.head = false := by unfold deadH deadB; simp; omega
        clear hag
        have HD2 : Hid (OwnK wr w.heap.size u3 (keysOf deadH ((L.map fun r => r.2.head).take (i + 1)))) := by
          show OwnK _ _ _ _
          rw [HKY.out, hpp]
          simp only [Bool.false_eq_true, if_false, List.append_nil]
          exact HDV.out
        clear HKY HDV
        go_wp2
        clear c0 c1 c2 c3 c4 c5 c6 c7 c8 c9 c10 c11 b1
        go_roundw
        case rel => exact ⟨i + 1, by omega, by go_num, HD2, HBV⟩
        case measure => simp [intOf]; omega

    · obtain rfl : i = L.length := by omega
      have HEND : Hid (KeysEnd w deadH L (.returned u3) wr) := by
        have h1 := HD.out
        rw [List.take_of_length_le (by simp)] at h1
        exact ⟨u3, rfl, h1, HB.out⟩
      have hnl : ¬ ((L.length : Int) < (L.length : Int)) := by omega
      clear HD HB
      go_wp2
      go_ret
      exact HEND.out
set_option maxHeartbeats 6400000 in
set_option maxRecDepth 20000 in
theorem dold_any (N b : Nat) (most : Int) (lv : Value) (L : List Row) (adv : Int) (w : World) (h : Keeps w N b most lv L) :
    Calls Try.prog 22 #[.pointer (some ⟨b, 0, none⟩), .int .i64 adv] w (KeysEnd w (oldH adv) L) := by
  have HLN : Hid (L.length ≤ 1000000) := h.len
  have HK : Hid (Keeps w N b most lv L) := h
  obtain ⟨a, c, hlv, -, hLc, -, -, -⟩ := h.lies
  have HLV : Hid (lv = .slice a L.length c) := hlv
  have hlc : L.length ≤ c := hLc
  obtain ⟨ki, hki, hkz0, hkz1, hkz2⟩ := info_parts info_key
  have HI : Hid (Try.prog.info? 25 = some ki) := hki
  have H0 : Hid (_ = _) := hkz0
  have H1 : Hid (_ = _) := hkz1
  have H2 : Hid (_ = _) := hkz2
  clear h hki hkz0 hkz1 hkz2 hlv hLc
  go_enter Try.func22, Try.ntmps22
  go_wp2_with fail
  go_loopw [5, 6] (fun u t wr => ∃ i : Nat, i ≤ L.length ∧ t = .int .i64 (i : Int) ∧ Hid (OwnK wr w.heap.size u (keysOf (oldH adv) ((L.map fun r => r.2.head).take i))) ∧ Hid (Below w.heap.size w wr)) (fun _ t _ => L.length - (intOf t).toNat)
  case atStart => exact ⟨0, by omega, rfl, World.ownsRow_nil _ _ _ _, Below.refl _ _⟩
  case round =>
    obtain ⟨i, hi, rfl, HD, HB⟩ := hrel
    have b1 := (HK.out.below HB.out).obj.cell 1 rfl
    rw [HLV.out] at b1
    have hln : L.length ≤ 1000000 := HLN.out
    have hlcI : (L.length : Int) ≤ (c : Int) := by omega
    by_cases hlt : i < L.length
    · have hiI : (i : Int) < (L.length : Int) := by omega
      obtain ⟨g, c', e, -, -, -, hrow, -⟩ := (HK.out.below HB.out).at i hlt
      obtain rfl : a = some ⟨g, 0, none⟩ := by
        have e2 := HLV.out
        rw [e] at e2
        simp only [Value.slice.injEq] at e2
        exact e2.1.symm
      clear e
      have HAG : Hid (0 ≤ L[i].2.head.age ∧ L[i].2.head.age ≤ 3600) := sealed_age (HK.out.shut _ (List.getElem_mem hlt))
      have HKY : Hid (keysOf (oldH adv) ((L.map fun r => r.2.head).take (i + 1)) = keysOf (oldH adv) ((L.map fun r => r.2.head).take i) ++ (if (oldH adv) L[i].2.head then [keyZ L[i].2.head] else [])) := by
        show _ = _
        rw [keysOf_take _ _ _ (by rw [List.length_map]; exact hlt), List.getElem_map]
      have HKL : Hid ((keysOf (oldH adv) ((L.map fun r => r.2.head).take i)).length ≤ 1000000) := by
        show _ ≤ _
        have := keysOf_len (oldH adv) ((L.map fun r => r.2.head).take i)
        rw [List.length_take, List.length_map] at this
        omega
      generalize L[i] = r at *
      obtain ⟨sr, l⟩ := r
      replace HAG : Hid (0 ≤ l.head.age ∧ l.head.age ≤ 3600) := HAG
      replace HKY : Hid (keysOf (oldH adv) ((L.map fun r => r.2.head).take (i + 1)) = keysOf (oldH adv) ((L.map fun r => r.2.head).take i) ++ (if (oldH adv) l.head then [keyZ l.head] else [])) := HKY
      obtain ⟨c0, c1, c2, c3, c4, c5, c6, c7, c8, c9, c10, c11⟩ := hrow
      have HVX : Hid (Var (wr.alloc (.cells (headA l.head) 37)) wr.heap.size (hdC l.head)) := var_new wr (hdC l.head) _
      have HBV : Hid (Below w.heap.size w (wr.alloc (.cells (headA l.head) 37))) := HB.out.alloc HB.out.size _
      have HDV : Hid (OwnK (wr.alloc (.cells (headA l.head) 37)) w.heap.size u5 (keysOf (oldH adv) ((L.map fun r => r.2.head).take i))) := own_below HD.out (below_new' _ _)
      clear HD HB
      go_upto_region 6 with fail
      clear c0 c1 c2 c3 c4 c5 c6 c7 c8 c9 c10 c11 b1
      generalize (wr.alloc (.cells (headA l.head) 37)) = V at *
      have c0 := HVX.out.cell 0 rfl
      have c1 := HVX.out.cell 1 rfl
      have c2 := HVX.out.cell 2 rfl
      have c3 := HVX.out.cell 3 rfl
      have c4 := HVX.out.cell 4 rfl
      have c5 := HVX.out.cell 5 rfl
      have c6 := HVX.out.cell 6 rfl
      by_cases he : l.head.adv = adv
      · have HEE : Hid (l.head.adv = adv) := he
        have hbb : (l.head.adv == adv) = true := by simp [he]
        clear he
        by_cases h1 : 1800 ≤ l.head.age
        · by_cases h2 : l.head.age < 3600
          · have hpp : oldH adv l.head = true := by unfold oldH oldB; simp [HEE.out]; omega
            have CK := dkeyOf_any l.head
            go_wp2_with fail
            refine (CK _).mono ?_
            rintro e w5 ⟨rfl, hb5⟩
            clear c0 c1 c2 c3 c4 c5 c6 CK
            obtain ⟨k, hk⟩ : ∃ k, keyZ l.head = k := ⟨_, rfl⟩
            have HKQ : Hid (keyZ l.head = k) := hk
            have HB5 : Hid (Below V.heap.size V w5) := hb5
            rw [show (#[.int .i64 l.head.kind, .int .i64 l.head.id, .int .i64 l.head.adv] : Array Value) = keyV (keyZ l.head) from rfl, hk]
            clear hb5 hk
            have HB6 : Hid (Below w.heap.size w (w5.alloc (.cells #[.int .i64 k.kind, .int .i64 k.id, .int .i64 k.adv] 25))) := below_more HBV.out (HB5.out.alloc HB5.out.size _) HBV.out.size
            have HD6 : Hid (OwnK (w5.alloc (.cells #[.int .i64 k.kind, .int .i64 k.id, .int .i64 k.adv] 25)) w.heap.size u5 (keysOf (oldH adv) ((L.map fun r => r.2.head).take i))) := own_below HDV.out (HB5.out.alloc HB5.out.size _)
            have HL6 : Hid (Lies (w5.alloc (.cells #[.int .i64 k.kind, .int .i64 k.id, .int .i64 k.adv] 25)) (some ⟨w5.heap.size, 0, none⟩) (keyC k)) := lies_new w5 (keyC k) _
            have hkl := HKL.out
            have hsz := HB6.out.size
            clear HBV HDV HB5
            go_wp2_with (at_builtin; go_must (refine wpList_append_hence (w5.alloc (.cells #[.int .i64 k.kind, .int .i64 k.id, .int .i64 k.adv] 25)) rfl _ _ 47 rfl w.heap.size 25 ki _ 3 24 Try.underlying47 HI.out H0.out H1.out H2.out rfl (by decide) u5 _ _ rfl HD6.out _ 1 _ (keyC k) rfl rfl HL6.out.at (fun u hu => by simp [keyC] at hu; rcases hu with rfl | rfl | rfl <;> rfl) (by unfold maxLen; omega) (by omega) hsz ?_))
            intro v' w6 ho6 hg6 hh6
            have HB7 : Hid (Below w.heap.size w w6) := HB6.out.trans ((Below.refl _ _).grown hg6 hsz (fun k hk => (World.ownsRow.lt HD6.out k hk).1))
            have HD7 : Hid (OwnK w6 w.heap.size v' (keysOf (oldH adv) ((L.map fun r => r.2.head).take (i + 1)))) := by
              show OwnK _ _ _ _
              rw [HKY.out, hpp, HKQ.out]
              simp only [if_true]
              exact ownK_snoc ho6
            clear HB6 HD6 HL6 ho6 hg6 hh6 HKY
            go_wp2
            go_roundw
            case rel => exact ⟨i + 1, by omega, by go_num, HD7, HB7⟩
            case measure => simp [intOf]; omega

          · have hpp : oldH adv l.head = false := by unfold oldH oldB; simp; omega
            have HD2 : Hid (OwnK V w.heap.size u5 (keysOf (oldH adv) ((L.map fun r => r.2.head).take (i + 1)))) := by
              show OwnK _ _ _ _
              rw [HKY.out, hpp]
              simp only [Bool.false_eq_true, if_false, List.append_nil]
              exact HDV.out
            clear HKY HDV
            go_wp2
            clear c0 c1 c2 c3 c4 c5 c6
            go_roundw
            case rel => exact ⟨i + 1, by omega, by go_num, HD2, HBV⟩
            case measure => simp [intOf]; omega

        · have hpp : oldH adv l.head = false := by unfold oldH oldB; simp; omega
          have HD2 : Hid (OwnK V w.heap.size u5 (keysOf (oldH adv) ((L.map fun r => r.2.head).take (i + 1)))) := by
            show OwnK _ _ _ _
            rw [HKY.out, hpp]
            simp only [Bool.false_eq_true, if_false, List.append_nil]
            exact HDV.out
          clear HKY HDV
          go_wp2
          clear c0 c1 c2 c3 c4 c5 c6
          go_roundw
          case rel => exact ⟨i + 1, by omega, by go_num, HD2, HBV⟩
          case measure => simp [intOf]; omega

      · have hpp : oldH adv l.head = false := by unfold oldH; simp [he]
        have hbb : (l.head.adv == adv) = false := by simp [he]
        clear he
        have HD2 : Hid (OwnK V w.heap.size u5 (keysOf (oldH adv) ((L.map fun r => r.2.head).take (i + 1)))) := by
          show OwnK _ _ _ _
          rw [HKY.out, hpp]
          simp only [Bool.false_eq_true, if_false, List.append_nil]
          exact HDV.out
        clear HKY HDV
        go_wp2
        clear c0 c1 c2 c3 c4 c5 c6
        go_roundw
        case rel => exact ⟨i + 1, by omega, by go_num, HD2, HBV⟩
        case measure => simp [intOf]; omega

    · obtain rfl : i = L.length := by omega
      have HEND : Hid (KeysEnd w (oldH adv) L (.returned u5) wr) := by
        have h1 := HD.out
        rw [List.take_of_length_le (by simp)] at h1
        exact ⟨u5, rfl, h1, HB.out⟩
      have hnl : ¬ ((L.length : Int) < (L.length : Int)) := by omega
      clear HD HB
      go_wp2
      go_ret
      exact HEND.out
set_option maxHeartbeats 1600000 in
theorem dkill_none (N b : Nat) (most : Int) (lv : Value) (L : List Row) (k : KeyZ) (w : World) (h : Keeps w N b most lv L) (ht : thereB L k = false) :
    Calls Try.prog 20 #[.pointer (some ⟨b, 0, none⟩), .agg (keyV k)] w fun e w' => e = .returned (.bool false) ∧ Below w.heap.size w w' := by
  have HB : Hid (Below w.heap.size w (w.alloc (.cells (keyV k) 25))) := below_new' _ _
  have HV : Hid (Var (w.alloc (.cells (keyV k) 25)) w.heap.size [.int .i64 k.kind, .int .i64 k.id, .int .i64 k.adv]) := var_new w [.int .i64 k.kind, .int .i64 k.id, .int .i64 k.adv] _
  have CA := at_any N b most lv L k (w.alloc (.cells (keyV k) 25)) (h.below HB.out)
  rw [show atZ L k = -1 by unfold atZ; rw [ht]; rfl] at CA
  clear h ht
  go_enter Try.func20, Try.ntmps20
  go_upto_region 1 with fail
  generalize (w.alloc (.cells (keyV k) 25)) = W at *
  have d0 := HV.out.cell 0 rfl
  have d1 := HV.out.cell 1 rfl
  have d2 := HV.out.cell 2 rfl
  go_wp2_with fail
  refine CA.mono ?_
  rintro e w2 ⟨rfl, hb⟩
  have HB2 : Hid (Below w.heap.size w w2) := below_more HB.out hb HB.out.size
  clear hb CA d0 d1 d2 HV HB
  go_wp2
  go_ret
  exact ⟨rfl, HB2.out⟩
set_option maxHeartbeats 3200000 in
theorem dkill_there (N b : Nat) (most : Int) (lv : Value) (L : List Row) (k : KeyZ) (w : World) (h : Keeps w N b most lv L) (ht : thereB L k = true) (r : Row) (hr : L[posZ L k]? = some r) :
    Calls Try.prog 20 #[.pointer (some ⟨b, 0, none⟩), .agg (keyV k)] w fun e w' => (3600 ≤ r.2.head.age → e = .returned (.bool false) ∧ Below w.heap.size w w') ∧ (r.2.head.age < 3600 → KillEnd w N b most lv L (posZ L k) r e w') := by
  have HB : Hid (Below w.heap.size w (w.alloc (.cells (keyV k) 25))) := below_new' _ _
  have HV : Hid (Var (w.alloc (.cells (keyV k) 25)) w.heap.size [.int .i64 k.kind, .int .i64 k.id, .int .i64 k.adv]) := var_new w [.int .i64 k.kind, .int .i64 k.id, .int .i64 k.adv] _
  have CA := at_any N b most lv L k (w.alloc (.cells (keyV k) 25)) (h.below HB.out)
  rw [show atZ L k = (posZ L k : Int) by unfold atZ; rw [ht]; rfl] at CA
  obtain ⟨hp, er⟩ := List.getElem?_eq_some_iff.1 hr
  obtain ⟨p, hpp⟩ : ∃ p, posZ L k = p := ⟨_, rfl⟩
  rw [hpp] at CA
  simp only [hpp] at hp er
  have HPP : Hid (posZ L k = p) := hpp
  obtain ⟨g, c, hlv, hlc, -, -, hrow, -⟩ := h.at p hp
  rw [er] at hrow
  have HRow : Hid (RowAt w g (p * 12) r) := hrow
  have HLV : Hid (lv = .slice (some ⟨g, 0, none⟩) L.length c) := hlv
  have HK : Hid (Keeps w N b most lv L) := h
  have hag : r.2.head.age ≤ 3600 := by
    have := sealed_age (h.shut r (by rw [← er]; exact List.getElem_mem hp))
    omega
  have HER : Hid (L[p] = r) := er
  have hlen : L.length ≤ 1000000 := h.len
  have hpI : (p : Int) < (L.length : Int) := by omega
  have hlcI : (L.length : Int) ≤ (c : Int) := by omega
  clear h ht hr hrow hlv er hpp
  go_enter Try.func20, Try.ntmps20
  go_upto_region 1 with fail
  generalize (w.alloc (.cells (keyV k) 25)) = W at *
  have d0 := HV.out.cell 0 rfl
  have d1 := HV.out.cell 1 rfl
  have d2 := HV.out.cell 2 rfl
  go_wp2_with fail
  refine CA.mono ?_
  rintro e w2 ⟨rfl, hb⟩
  have HB2 : Hid (Below w.heap.size w w2) := below_more HB.out hb HB.out.size
  clear hb CA d0 d1 d2 HV HB
  have b1 := (HK.out.below HB2.out).obj.cell 1 rfl
  rw [HLV.out] at b1
  have hfz : ∀ j, w2.frozen? ⟨g, j, none⟩ = false := fun j => by
    have h := (HK.out.below HB2.out).own
    rw [HLV.out] at h
    exact World.ownsRow.frozenAt h j
  obtain ⟨c0, c1, c2, c3, c4, c5, c6, c7, c8, c9, c10, c11⟩ := HRow.out.below HB2.out HRow.out.lt
  have hp0 : ¬ ((p : Int) < 0) := by omega
  by_cases hd : r.2.head.age = 3600
  · have hbb : (r.2.head.age == 3600) = true := by simp [hd]
    go_wp2
    go_ret
    exact ⟨fun _ => ⟨rfl, HB2.out⟩, fun h => absurd h (by omega)⟩
  · have hd2 : r.2.head.age < 3600 := by omega
    have hbb : (r.2.head.age == 3600) = false := by simp [hd]
    go_wp2
    go_ret
    refine ⟨fun h => absurd h (by omega), fun _ => ?_⟩
    have h2 := HK.out.below HB2.out
    rw [HLV.out] at h2
    obtain ⟨k1, k2⟩ := h2.age rfl hp 3600 (by omega) (by omega)
    have e1 := HER.out
    refine ⟨L[p].1, rfl, ?_, ?_, ?_⟩
    · rw [HPP.out, HLV.out, ← e1]; exact k1
    · rw [HLV.out]; exact (Turned.of b _ HB2.out).trans (Turned.grown k2)
    · refine ⟨.inl rfl, fun x hx hr y hy => ?_⟩
      rw [HPP.out] at hy
      rcases List.mem_or_eq_of_mem_set hy with hy | rfl
      · exact hr y hy
      · exact age_off (show Off x (L[p].1, r.2) by rw [← e1]; exact hr _ (List.getElem_mem hp))
end Go.Proofs.Ytbogphhbjmapgaa
