/- Tick: the walk. -/
import Derived.Test.YtbogphhbjmapgaaY9G
namespace Go.Proofs.Ytbogphhbjmapgaa
open Go.RowKit
set_option linter.unusedVariables false

theorem ownK_snoc {w : World} {N : Nat} {v : Value} {D : List KeyZ} {k : KeyZ} (h : w.ownsRow N 25 3 v (D.length + 1) (cellsOf keyC D ++ keyC k)) : OwnK w N v (D ++ [k]) := by
  unfold OwnK cellsOf at *
  rw [List.flatMap_append, List.length_append]
  simpa using h
set_option maxHeartbeats 6400000 in
set_option maxRecDepth 20000 in
theorem tick_any (N b : Nat) (most : Int) (lv : Value) (L : List Row) (w : World) (h : Keeps w N b most lv L) :
    Calls Try.prog 16 #[.pointer (some ⟨b, 0, none⟩)] w (TickEnd w N b most lv L) := by
  have HK : Hid (Keeps w N b most lv L) := h
  have HLN : Hid (L.length ≤ 1000000) := h.len
  have HSE : Hid (∀ x ∈ L, 0 ≤ x.2.head.age) := fun x hx => (sealed_age (h.shut x hx)).1
  have HOB : Hid (b < w.heap.size ∧ ∀ k, lv.ownBlock = some k → k < w.heap.size) := ⟨h.obj.lt, fun k hk => (World.ownsRow.lt h.own k hk).2⟩
  have CA := all_any N b most lv L w h
  obtain ⟨ki, hki, hkz0, hkz1, hkz2⟩ := info_parts info_key
  have HI : Hid (Try.prog.info? 25 = some ki) := hki
  have H0 : Hid (_ = _) := hkz0
  have H1 : Hid (_ = _) := hkz1
  have H2 : Hid (_ = _) := hkz2
  clear h hki hkz0 hkz1 hkz2
  go_enter Try.func16, Try.ntmps16
  go_wp2_with fail
  refine CA.mono ?_
  rintro e w1 ⟨g, c, R, rfl, hg, hRl, hown, hR, hb⟩
  have HG : Hid (w.heap.size ≤ g ∧ R.length = L.length) := ⟨hg, hRl⟩
  have HBS : Hid (Beside w w1 g c L R (.slice none 0 0)) := ⟨hown, hR, hRl, fun k hk => by simp [Value.ownBlock] at hk⟩
  have HT1 : Hid (Turned b lv.ownBlock w w1) := Turned.of b _ hb
  have HTK : Hid (Ticked w w1 N b most lv L (.slice none 0 0) 0) := ⟨L, HK.out.below hb, rfl, fun j h h' => by rw [if_neg (by omega)], Still.refl _ _ _, fun k hk => by simp [Value.ownBlock] at hk⟩
  clear hg hRl hown hR hb CA HK
  go_wp2_with fail
  go_loopw [3, 9] (fun u t wr => ∃ i : Nat, i ≤ L.length ∧ t = .int .i64 i ∧ Hid (OwnK wr w.heap.size u (tickK (L.take i))) ∧ Hid (Ticked w wr N b most lv L u i) ∧ Hid (Beside w wr g c L R u) ∧ Hid (Turned b lv.ownBlock w wr)) (fun _ t _ => L.length - (intOf t).toNat)
  case atStart => exact ⟨0, by omega, rfl, World.ownsRow_nil _ _ _ _, HTK.out, HBS.out, HT1.out⟩
  case round =>
    clear HTK HBS HT1
    obtain ⟨i, hi, rfl, HD, HTK, HBS, HT⟩ := hrel
    by_cases hlt : i < L.length
    · have hiI : (i : Int) < (L.length : Int) := by omega
      have hln : L.length ≤ 1000000 := HLN.out
      have hiR : i < R.length := by rw [HG.out.2]; exact hlt
      have hrow := own_row HG.out.2.symm HBS.out.1 i hiR
      obtain ⟨q1, q2⟩ := HBS.out.2.1 i hlt hiR
      obtain ⟨r, hr⟩ : ∃ r, R[i] = r := ⟨_, rfl⟩
      rw [hr] at hrow q1 q2
      have HR0 : Hid (RowAt wr g (i * 12) r) := hrow
      have HRQ : Hid (r.2 = L[i].2) := q1
      have HRF : Hid (Held wr r.1 r.2 ∧ Nils r.1) := ⟨q2.1, q2.2.1⟩
      have HKY : Hid (tickK (L.take (i + 1)) = tickK (L.take i) ++ (if r.2.head.age = 3599 then [keyZ r.2.head] else [])) := by
        show _ = _
        rw [tick_keys L i hlt, HRQ.out]; rfl
      have HKL : Hid ((tickK (L.take i)).length ≤ 1000000) := by
        show _ ≤ _
        have := keysOf_len (fun h => h.age == 3599) ((L.take i).map fun r => r.2.head)
        rw [List.length_map, List.length_take] at this
        have := HLN.out
        unfold tickK; omega
      have hage : 0 ≤ r.2.head.age := by rw [HRQ.out]; exact HSE.out _ (List.getElem_mem hlt)
      clear hrow q1 q2 hr hiR
      obtain ⟨c0, c1, c2, c3, c4, c5, c6, c7, c8, c9, c10, c11⟩ := HR0.out
      have HBX : Hid (Var (wr.alloc (.cells (lsaA r.1 r.2) 42)) wr.heap.size (rowC r)) := var_new wr (rowC r) _
      have HB2 : Hid (Below wr.heap.size wr (wr.alloc (.cells (lsaA r.1 r.2) 42))) := below_new' _ _
      go_upto_region 5 with fail
      clear c0 c1 c2 c3 c4 c5 c6 c7 c8 c9 c10 c11
      generalize wr.alloc (.cells (lsaA r.1 r.2) 42) = V at *
      have c0 := HBX.out.cell 0 rfl
      have c1 := HBX.out.cell 1 rfl
      have c2 := HBX.out.cell 2 rfl
      have c3 := HBX.out.cell 3 rfl
      have c4 := HBX.out.cell 4 rfl
      have c5 := HBX.out.cell 5 rfl
      have c6 := HBX.out.cell 6 rfl
      have CD := isDead_any r.2.head V
      by_cases hd : 3600 ≤ r.2.head.age
      · rw [show deadB r.2.head.age = true by unfold deadB; simpa using hd] at CD
        go_wp2_with fail
        refine CD.mono ?_
        rintro e w2 ⟨rfl, hb2⟩
        have HB3 : Hid (Below wr.heap.size wr w2) := below_more HB2.out hb2 HB2.out.size
        have HTK2 : Hid (Ticked w w2 N b most lv L u3 (i + 1)) := (HTK.out.below HB3.out).stay hlt (by unfold upL; rw [if_neg (by rw [← HRQ.out]; omega)])
        have HBS2 : Hid (Beside w w2 g c L R u3) := HBS.out.below HB3.out
        have HT2 : Hid (Turned b lv.ownBlock w w2) := HT.out.trans (Turned.of b _ HB3.out)
        have HD2 : Hid (OwnK w2 w.heap.size u3 (tickK (L.take (i + 1)))) := by
          show OwnK _ _ _ _
          rw [HKY.out, if_neg (by omega), List.append_nil]
          exact own_below HD.out HB3.out
        clear c0 c1 c2 c3 c4 c5 c6 CD hb2 HKY
        go_wp2
        go_roundw
        case rel => exact ⟨i + 1, by omega, by go_num, HD2, HTK2, HBS2, HT2⟩
        case measure => simp [intOf]; omega
      · rw [show deadB r.2.head.age = false by unfold deadB; simpa using hd] at CD
        go_wp2_with fail
        refine CD.mono ?_
        rintro e w2 ⟨rfl, hb2⟩
        have HB3 : Hid (Below wr.heap.size wr w2) := below_more HB2.out hb2 HB2.out.size
        have HBX2 : Hid (Var w2 wr.heap.size (rowC r)) := HBX.out.below hb2 HBX.out.lt
        clear c0 c1 c2 c3 c4 c5 c6 CD hb2 HBX HB2
        obtain ⟨q, hq⟩ : ∃ q, ageL r.2 (r.2.head.age + 1) = q := ⟨_, rfl⟩
        have HQ : Hid (ageL r.2 (r.2.head.age + 1) = q) := hq
        have c0 := HBX2.out.cell 0 rfl
        have f0 := HBX2.out.frozen 0
        have HBX3 : Hid (Var (w2.setCell ⟨wr.heap.size, 0, none⟩ (.int .i64 (r.2.head.age + 1))) wr.heap.size (rowC (r.1, q))) := by
          rw [← hq]; exact HBX2.out.set 0 _
        have HB4 : Hid (Below wr.heap.size wr (w2.setCell ⟨wr.heap.size, 0, none⟩ (.int .i64 (r.2.head.age + 1)))) := HB3.out.setCell (Nat.le_refl _) _
        clear hq
        go_upto_region 7 with fail
        clear c0 f0 HBX2 HB3
        generalize w2.setCell ⟨wr.heap.size, 0, none⟩ (.int .i64 (r.2.head.age + 1)) = V2 at *
        have CB := (HTK.out.below HB4.out).back hlt (by rw [← HRQ.out]; omega) r.1 (by rw [← HRQ.out]; exact HRF.out.1.below HB4.out) HRF.out.2 (Nat.le_trans HT.out.size HB4.out.size) (fun k hk => Nat.lt_of_lt_of_le (World.ownsRow.lt HD.out k hk).2 HB4.out.size)
        rw [← HRQ.out, HQ.out] at CB
        have c0 := HBX3.out.cell 0 rfl
        have c1 := HBX3.out.cell 1 rfl
        have c2 := HBX3.out.cell 2 rfl
        have c3 := HBX3.out.cell 3 rfl
        have c4 := HBX3.out.cell 4 rfl
        have c5 := HBX3.out.cell 5 rfl
        have c6 := HBX3.out.cell 6 rfl
        have c7 := HBX3.out.cell 7 rfl
        have c8 := HBX3.out.cell 8 rfl
        have c9 := HBX3.out.cell 9 rfl
        have c10 := HBX3.out.cell 10 rfl
        have c11 := HBX3.out.cell 11 rfl
        go_wp2_with fail
        refine CB.mono ?_
        rintro e w3 ⟨rfl, htk, htu⟩
        have HTK3 : Hid (Ticked w w3 N b most lv L u3 (i + 1)) := htk
        have hws := HT.out.size
        have hbn : b ≠ wr.heap.size := by have := HOB.out.1; omega
        have hon : ∀ k, lv.ownBlock = some k → k ≠ wr.heap.size := fun k hk => by have := HOB.out.2 k hk; omega
        have HBX4 : Hid (Var w3 wr.heap.size (rowC (r.1, q))) := HBX3.out.turned htu hbn hon
        have HT3 : Hid (Turned b lv.ownBlock w w3) := (HT.out.trans (Turned.of b _ HB4.out)).trans htu
        have HBS3 : Hid (Beside w w3 g c L R u3) := (HBS.out.below HB4.out).other htu HOB.out.1 HOB.out.2
        have HD3 : Hid (OwnK w3 w.heap.size u3 (tickK (L.take i))) := own_turned (own_below HD.out HB4.out) htu HOB.out.1 HOB.out.2
        clear htk htu CB c0 c1 c2 c3 c4 c5 c6 c7 c8 c9 c10 c11 HBX3 HB4 hbn hon HTK HBS HT HD
        have c0 := HBX4.out.cell 0 rfl
        have c1 := HBX4.out.cell 1 rfl
        have c2 := HBX4.out.cell 2 rfl
        have c3 := HBX4.out.cell 3 rfl
        have c4 := HBX4.out.cell 4 rfl
        have c5 := HBX4.out.cell 5 rfl
        have c6 := HBX4.out.cell 6 rfl
        have CD := isDead_any q.head w3
        have hqa : q.head.age = r.2.head.age + 1 := by rw [← HQ.out]; rfl
        by_cases hd2 : r.2.head.age = 3599
        · rw [show deadB q.head.age = true by unfold deadB; rw [hqa, hd2]; rfl] at CD
          clear hqa
          go_wp2_with fail
          refine CD.mono ?_
          rintro e w4 ⟨rfl, hb4⟩
          have HTK4 : Hid (Ticked w w4 N b most lv L u3 (i + 1)) := HTK3.out.below hb4
          have HBS4 : Hid (Beside w w4 g c L R u3) := HBS3.out.below hb4
          have HT4 : Hid (Turned b lv.ownBlock w w4) := HT3.out.trans (Turned.of b _ hb4)
          have HD4 : Hid (OwnK w4 w.heap.size u3 (tickK (L.take i))) := own_below HD3.out hb4
          have HBX5 : Hid (Var w4 wr.heap.size (rowC (r.1, q))) := HBX4.out.below hb4 HBX4.out.lt
          clear c0 c1 c2 c3 c4 c5 c6 CD hb4 HBX4 HTK3 HBS3 HT3 HD3
          have c0 := HBX5.out.cell 0 rfl
          have c1 := HBX5.out.cell 1 rfl
          have c2 := HBX5.out.cell 2 rfl
          have c3 := HBX5.out.cell 3 rfl
          have c4 := HBX5.out.cell 4 rfl
          have c5 := HBX5.out.cell 5 rfl
          have c6 := HBX5.out.cell 6 rfl
          have CK := akey_any q.head w4
          go_wp2_with fail
          refine CK.mono ?_
          rintro e w5 ⟨rfl, hb5⟩
          obtain ⟨k, hk⟩ : ∃ k, keyZ q.head = k := ⟨_, rfl⟩
          have HKQ : Hid (keyZ r.2.head = k) := by show _ = _; rw [← hk, ← HQ.out, ageL_key]
          have HB5 : Hid (Below w4.heap.size w4 w5) := hb5
          rw [show keyA q.head = keyV (keyZ q.head) from rfl, hk]
          clear hb5 CK c0 c1 c2 c3 c4 c5 c6 hk
          have HB6 : Hid (Below w4.heap.size w4 (w5.alloc (.cells #[.int .i64 k.kind, .int .i64 k.id, .int .i64 k.adv] 25))) := HB5.out.alloc HB5.out.size _
          have HD6 : Hid (OwnK (w5.alloc (.cells #[.int .i64 k.kind, .int .i64 k.id, .int .i64 k.adv] 25)) w.heap.size u3 (tickK (L.take i))) := own_below HD4.out HB6.out
          have HTK6 : Hid (Ticked w (w5.alloc (.cells #[.int .i64 k.kind, .int .i64 k.id, .int .i64 k.adv] 25)) N b most lv L u3 (i + 1)) := HTK4.out.below HB6.out
          have HBS6 : Hid (Beside w (w5.alloc (.cells #[.int .i64 k.kind, .int .i64 k.id, .int .i64 k.adv] 25)) g c L R u3) := HBS4.out.below HB6.out
          have HT6 : Hid (Turned b lv.ownBlock w (w5.alloc (.cells #[.int .i64 k.kind, .int .i64 k.id, .int .i64 k.adv] 25))) := HT4.out.trans (Turned.of b _ HB6.out)
          have HL6 : Hid (Lies (w5.alloc (.cells #[.int .i64 k.kind, .int .i64 k.id, .int .i64 k.adv] 25)) (some ⟨w5.heap.size, 0, none⟩) (keyC k)) := lies_new w5 (keyC k) _
          have hkl := HKL.out
          have hsz := HT6.out.size
          clear HTK4 HBS4 HT4 HD4 HBX5 HB5 HB6
          go_wp2_with (at_builtin; go_must (refine wpList_append_hence (w5.alloc (.cells #[.int .i64 k.kind, .int .i64 k.id, .int .i64 k.adv] 25)) rfl _ _ 47 rfl w.heap.size 25 ki _ 3 24 Try.underlying47 HI.out H0.out H1.out H2.out rfl (by decide) u3 _ _ rfl HD6.out _ 1 _ (keyC k) rfl rfl HL6.out.at (fun u hu => by simp [keyC] at hu; rcases hu with rfl | rfl | rfl <;> rfl) (by unfold maxLen; omega) (by omega) hsz ?_))
          intro v' w6 ho6 hg6 hh6
          have HTK7 : Hid (Ticked w w6 N b most lv L v' (i + 1)) := HTK6.out.grown hg6 hh6
          have HBS7 : Hid (Beside w w6 g c L R v') := HBS6.out.grown hg6 hh6
          have HT7 : Hid (Turned b lv.ownBlock w w6) := HT6.out.low ((Below.refl _ _).grown hg6 hsz (fun k hk => (World.ownsRow.lt HD6.out k hk).1))
          have HD7 : Hid (OwnK w6 w.heap.size v' (tickK (L.take (i + 1)))) := by
            show OwnK _ _ _ _
            rw [HKY.out, if_pos hd2, HKQ.out]
            exact ownK_snoc ho6
          clear HTK6 HBS6 HT6 HD6 HL6 ho6 hg6 hh6 HKY
          go_wp2
          go_roundw
          case rel => exact ⟨i + 1, by omega, by go_num, HD7, HTK7, HBS7, HT7⟩
          case measure => simp [intOf]; omega
        · rw [show deadB q.head.age = false by unfold deadB; rw [hqa]; simp; omega] at CD
          clear hqa
          go_wp2_with fail
          refine CD.mono ?_
          rintro e w4 ⟨rfl, hb4⟩
          have HTK4 : Hid (Ticked w w4 N b most lv L u3 (i + 1)) := HTK3.out.below hb4
          have HBS4 : Hid (Beside w w4 g c L R u3) := HBS3.out.below hb4
          have HT4 : Hid (Turned b lv.ownBlock w w4) := HT3.out.trans (Turned.of b _ hb4)
          have HD4 : Hid (OwnK w4 w.heap.size u3 (tickK (L.take (i + 1)))) := by
            show OwnK _ _ _ _
            rw [HKY.out, if_neg hd2, List.append_nil]
            exact own_below HD3.out hb4
          clear c0 c1 c2 c3 c4 c5 c6 CD hb4 HKY
          go_wp2
          go_roundw
          case rel => exact ⟨i + 1, by omega, by go_num, HD4, HTK4, HBS4, HT4⟩
          case measure => simp [intOf]; omega
    · have hie : i = L.length := by omega
      subst hie
      have HEND : Hid (TickEnd w N b most lv L (.returned u3) wr) := by
        obtain ⟨M, h1, h2, h3⟩ := HTK.out.done
        refine ⟨u3, M, rfl, ?_, h1, h2, HT.out, h3⟩
        have := HD.out
        rwa [List.take_length] at this
      have hnl : ¬ ((L.length : Int) < (L.length : Int)) := by omega
      clear HTK HD HBS HT
      go_wp2
      go_ret
      exact HEND.out
end Go.Proofs.Ytbogphhbjmapgaa
