/- The document's Tick: the walk. -/
import Derived.Test.YtbogphhbjmapgaaD9A
namespace Go.Proofs.Ytbogphhbjmapgaa
open Go.RowKit
set_option linter.unusedVariables false

theorem up_age {l : LsaZ} (h : l.head.age < 3600) : upL l = ageL l (l.head.age + 1) := by unfold upL; rw [if_pos h]
set_option maxHeartbeats 6400000 in
set_option maxRecDepth 20000 in
theorem dtick_any (N b : Nat) (most : Int) (lv : Value) (L : List Row) (w : World) (h : Keeps w N b most lv L) (hNw : N ≤ w.heap.size) :
    Calls Try.prog 17 #[.pointer (some ⟨b, 0, none⟩)] w (DTickEnd w N b most lv L) := by
  have HLN : Hid (L.length ≤ 1000000) := h.len
  have HSE : Hid (∀ x ∈ L, 0 ≤ x.2.head.age) := fun x hx => (sealed_age (h.shut x hx)).1
  have HOB : Hid (b < w.heap.size ∧ ∀ k, lv.ownBlock = some k → k < w.heap.size) := ⟨h.obj.lt, fun k hk => (World.ownsRow.lt h.own k hk).2⟩
  obtain ⟨a, c, hlv, -, hLc, -, -, -⟩ := h.lies
  have HLV : Hid (lv = .slice a L.length c) := hlv
  have hlc : L.length ≤ c := hLc
  have HTK : Hid (Ticked w w N b most lv L (.slice none 0 0) 0) := ⟨L, h, rfl, fun j h h' => by rw [if_neg (by omega)], Still.refl _ _ _, fun k hk => by simp [Value.ownBlock] at hk⟩
  have HT0 : Hid (Turned b lv.ownBlock w w) := Turned.of b _ (Below.refl _ _)
  have HCB : Hid (∀ X u i, Ticked w X N b most lv L u i → X.cell? ⟨b, 1, none⟩ = some (.slice a L.length c)) := fun X u i ⟨M, h1, _⟩ => by rw [← hlv]; exact h1.obj.cell 1 rfl
  obtain ⟨ki, hki, hkz0, hkz1, hkz2⟩ := info_parts info_key
  have HI : Hid (Try.prog.info? 25 = some ki) := hki
  have H0 : Hid (_ = _) := hkz0
  have H1 : Hid (_ = _) := hkz1
  have H2 : Hid (_ = _) := hkz2
  clear h hki hkz0 hkz1 hkz2 hlv hLc
  go_enter Try.func17, Try.ntmps17
  go_wp2_with fail
  go_loopw [3, 4] (fun u t wr => ∃ i : Nat, i ≤ L.length ∧ t = .int .i64 (i : Int) ∧ Hid (OwnK wr w.heap.size u (tickK (L.take i))) ∧ Hid (Ticked w wr N b most lv L u i) ∧ Hid (Turned b lv.ownBlock w wr)) (fun _ t _ => L.length - (intOf t).toNat)
  case atStart => exact ⟨0, by omega, rfl, World.ownsRow_nil _ _ _ _, HTK.out, HT0.out⟩
  case round =>
    clear HTK HT0
    obtain ⟨i, hi, rfl, HD, HTK, HT⟩ := hrel
    have b1 := HCB.out _ _ _ HTK.out
    have hln : L.length ≤ 1000000 := HLN.out
    have hlcI : (L.length : Int) ≤ (c : Int) := by omega
    by_cases hlt : i < L.length
    · have hiI : (i : Int) < (L.length : Int) := by omega
      obtain ⟨g, c', s, e, -, hrow, -, hfz⟩ := HTK.out.at i hlt
      rw [if_neg (by omega)] at hrow
      obtain rfl : a = some ⟨g, 0, none⟩ := by
        have e2 := HLV.out
        rw [e] at e2
        simp only [Value.slice.injEq] at e2
        exact e2.1.symm
      have HE : Hid (lv = .slice (some ⟨g, 0, none⟩) L.length c) := HLV.out
      have hage : 0 ≤ L[i].2.head.age := HSE.out _ (List.getElem_mem hlt)
      have HKY : Hid (tickK (L.take (i + 1)) = tickK (L.take i) ++ (if L[i].2.head.age = 3599 then [rk L[i]] else [])) := tick_keys L i hlt
      have HKL : Hid ((tickK (L.take i)).length ≤ 1000000) := by
        show _ ≤ _
        have := keysOf_len (fun h => h.age == 3599) ((L.take i).map fun r => r.2.head)
        rw [List.length_map, List.length_take] at this
        unfold tickK; omega
      have HST : Hid (¬ L[i].2.head.age < 3600 → Ticked w wr N b most lv L u3 (i + 1)) := fun hn => HTK.out.stay hlt (by unfold upL; rw [if_neg hn])
      have HAG : Hid (L[i].2.head.age < 3600 → Ticked w (wr.setCell ⟨g, i * 12, none⟩ (.int .i64 (L[i].2.head.age + 1))) N b most lv L u3 (i + 1) ∧ wr.grownBy (wr.setCell ⟨g, i * 12, none⟩ (.int .i64 (L[i].2.head.age + 1))) (some g)) := fun ha => by
        have h1 := HTK.out
        rw [HE.out] at h1 ⊢
        exact h1.age rfl hlt ha
      have HUP : Hid (∀ X, Ticked w X N b most lv L u3 (i + 1) → L[i].2.head.age < 3600 → ∃ s, RowAt X g (i * 12) (s, ageL L[i].2 (L[i].2.head.age + 1))) := fun X hX ha => by
        obtain ⟨g', c2, s2, e2, -, hr2, -, -⟩ := hX.at i hlt
        rw [HE.out] at e2
        simp only [Value.slice.injEq, Option.some.injEq, Addr.mk.injEq] at e2
        obtain ⟨⟨rfl, -, -⟩, -, rfl⟩ := e2
        rw [if_pos (by omega), up_age ha] at hr2
        exact ⟨s2, hr2⟩
      have HRKK : Hid (rk L[i] = keyZ L[i].2.head) := rfl
      generalize hL2 : L[i].2 = l at *
      clear hL2 e
      obtain ⟨c0, c1, c2, c3, c4, c5, c6, c7, c8, c9, c10, c11⟩ := hrow
      by_cases hd : l.head.age < 3600
      · obtain ⟨hAG1, hAG2⟩ := HAG.out hd
        have HTK2 : Hid (Ticked w (wr.setCell ⟨g, i * 12, none⟩ (.int .i64 (l.head.age + 1))) N b most lv L u3 (i + 1)) := hAG1
        have HT2 : Hid (Turned b lv.ownBlock w (wr.setCell ⟨g, i * 12, none⟩ (.int .i64 (l.head.age + 1)))) := HT.out.trans (by rw [HE.out]; exact Turned.grown hAG2)
        have HD2 : Hid (OwnK (wr.setCell ⟨g, i * 12, none⟩ (.int .i64 (l.head.age + 1))) w.heap.size u3 (tickK (L.take i))) := own_turned HD.out (Turned.grown (b := b) hAG2) HOB.out.1 (fun k hk => HOB.out.2 k (by rw [HE.out]; exact hk))
        clear hAG1 hAG2
        go_upto_region 7 with fail
        clear c0 c1 c2 c3 c4 c5 c6 c7 c8 c9 c10 c11 hfz b1 HST HAG HTK HT HD
        generalize wr.setCell ⟨g, i * 12, none⟩ (.int .i64 (l.head.age + 1)) = Z at *
        have b1 := HCB.out _ _ _ HTK2.out
        obtain ⟨s2, hr2⟩ := HUP.out Z HTK2.out hd
        obtain ⟨q, hq⟩ : ∃ q, ageL l (l.head.age + 1) = q := ⟨_, rfl⟩
        have hqk : keyZ q.head = keyZ l.head := by rw [← hq]; rfl
        have hqa : q.head.age = l.head.age + 1 := by rw [← hq]; rfl
        have HQK : Hid (keyZ q.head = keyZ l.head) := hqk
        rw [hq] at hr2
        obtain ⟨c0, c1, c2, c3, c4, c5, c6, c7, c8, c9, c10, c11⟩ := hr2
        clear hq hqk
        by_cases hd2 : l.head.age = 3599
        · have hq2 : q.head.age = 3600 := by omega
          clear hqa
          rw [hq2] at c0
          have CK : ∀ X, Calls Try.prog 18 #[.agg #[.int .i64 3600, .int .i64 q.head.kind, .int .i64 q.head.id, .int .i64 q.head.adv, .int .i64 q.head.seq, .int .i64 q.head.sum, .int .i64 q.head.len]] X fun e w' => e = .returned (.agg #[.int .i64 q.head.kind, .int .i64 q.head.id, .int .i64 q.head.adv]) ∧ Below X.heap.size X w' := fun X => by
            have := dkeyOf_any q.head X
            unfold headA at this
            rwa [hq2] at this
          clear hq2
          go_wp2_with fail
          refine (CK _).mono ?_
          rintro e w5 ⟨rfl, hb5⟩
          obtain ⟨k, hk⟩ : ∃ k, keyZ q.head = k := ⟨_, rfl⟩
          have HKQ : Hid (rk L[i] = k) := by show _ = _; rw [← hk, HQK.out]; exact HRKK.out
          have HB5 : Hid (Below Z.heap.size Z w5) := hb5
          rw [show (#[.int .i64 q.head.kind, .int .i64 q.head.id, .int .i64 q.head.adv] : Array Value) = keyV (keyZ q.head) from rfl, hk]
          clear hb5 CK c0 c1 c2 c3 c4 c5 c6 c7 c8 c9 c10 c11 hk b1
          have HB6 : Hid (Below Z.heap.size Z (w5.alloc (.cells #[.int .i64 k.kind, .int .i64 k.id, .int .i64 k.adv] 25))) := HB5.out.alloc HB5.out.size _
          have HD6 : Hid (OwnK (w5.alloc (.cells #[.int .i64 k.kind, .int .i64 k.id, .int .i64 k.adv] 25)) w.heap.size u3 (tickK (L.take i))) := own_below HD2.out HB6.out
          have HTK6 : Hid (Ticked w (w5.alloc (.cells #[.int .i64 k.kind, .int .i64 k.id, .int .i64 k.adv] 25)) N b most lv L u3 (i + 1)) := HTK2.out.below HB6.out
          have HT6 : Hid (Turned b lv.ownBlock w (w5.alloc (.cells #[.int .i64 k.kind, .int .i64 k.id, .int .i64 k.adv] 25))) := HT2.out.trans (Turned.of b _ HB6.out)
          have HL6 : Hid (Lies (w5.alloc (.cells #[.int .i64 k.kind, .int .i64 k.id, .int .i64 k.adv] 25)) (some ⟨w5.heap.size, 0, none⟩) (keyC k)) := lies_new w5 (keyC k) _
          have hkl := HKL.out
          have hsz := HT6.out.size
          clear HTK2 HT2 HD2 HB5 HB6
          go_wp2_with (at_builtin; go_must (refine wpList_append_hence (w5.alloc (.cells #[.int .i64 k.kind, .int .i64 k.id, .int .i64 k.adv] 25)) rfl _ _ 47 rfl w.heap.size 25 ki _ 3 24 Try.underlying47 HI.out H0.out H1.out H2.out rfl (by decide) u3 _ _ rfl HD6.out _ 1 _ (keyC k) rfl rfl HL6.out.at (fun u hu => by simp [keyC] at hu; rcases hu with rfl | rfl | rfl <;> rfl) (by unfold maxLen; omega) (by omega) hsz ?_))
          intro v' w6 ho6 hg6 hh6
          have HTK7 : Hid (Ticked w w6 N b most lv L v' (i + 1)) := HTK6.out.grown hg6 hh6
          have HT7 : Hid (Turned b lv.ownBlock w w6) := HT6.out.low ((Below.refl _ _).grown hg6 hsz (fun k hk => (World.ownsRow.lt HD6.out k hk).1))
          have HD7 : Hid (OwnK w6 w.heap.size v' (tickK (L.take (i + 1)))) := by
            show OwnK _ _ _ _
            rw [HKY.out, if_pos hd2, HKQ.out]
            exact ownK_snoc ho6
          clear HTK6 HT6 HD6 HL6 ho6 hg6 hh6 HKY
          go_wp2
          go_roundw
          case rel => exact ⟨i + 1, by omega, by go_num, HD7, HTK7, HT7⟩
          case measure => simp [intOf]; omega
        · have hq2 : ¬ q.head.age = 3600 := by omega
          have HD4 : Hid (OwnK Z w.heap.size u3 (tickK (L.take (i + 1)))) := by
            show OwnK _ _ _ _
            rw [HKY.out, if_neg hd2, List.append_nil]
            exact HD2.out
          clear hqa
          go_wp2
          clear c0 c1 c2 c3 c4 c5 c6 c7 c8 c9 c10 c11 b1 HKY
          go_roundw
          case rel => exact ⟨i + 1, by omega, by go_num, HD4, HTK2, HT2⟩
          case measure => simp [intOf]; omega
      · have HTK2 := HST.out hd
        have HD2 : Hid (OwnK wr w.heap.size u3 (tickK (L.take (i + 1)))) := by
          show OwnK _ _ _ _
          rw [HKY.out, if_neg (by omega), List.append_nil]
          exact HD.out
        clear HST HAG HUP HKY HTK HD
        go_wp2
        clear c0 c1 c2 c3 c4 c5 c6 c7 c8 c9 c10 c11 hfz b1
        go_roundw
        case rel => exact ⟨i + 1, by omega, by go_num, HD2, HTK2, HT⟩
        case measure => simp [intOf]; omega
    · obtain rfl : i = L.length := by omega
      have HEND : Hid (DTickEnd w N b most lv L (.returned u3) wr) := by
        obtain ⟨M, h1, h2, h3⟩ := HTK.out.done
        refine ⟨u3, M, rfl, ?_, h1, h2, HT.out, h3⟩
        have := HD.out
        rwa [List.take_length] at this
      have hnl : ¬ ((L.length : Int) < (L.length : Int)) := by omega
      clear HTK HD HT
      go_wp2
      go_ret
      exact HEND.out
end Go.Proofs.Ytbogphhbjmapgaa
