/- Of each Key the one of the greatest Seq is there: the walk. -/
import Derived.Test.YtibbhfmpgpkdaaaS8W14
import Derived.Test.YtibbhfmpgpkdaaaS8W13
import Derived.Deep.CutRange
namespace Go.Proofs.Ytibbhfmpgpkdaaa
open Go.RowKit
set_option linter.unusedVariables false

theorem since_nil {w0 w : World} {N b : Nat} (h : Keeps w N b 100 (.slice none 0 0) []) (hb : Below N w0 w) : Since w0 w N b [] := ⟨_, [], h, best_nil, by simp, hb⟩
theorem take_more (zs : List Int) (i : Nat) (hi : i < zs.length) : zs.take (i + 1) = zs.take i ++ [zs.getD i 0] := by
  rw [← List.take_append_getElem hi, List.getD_eq_getElem?_getD, List.getElem?_eq_getElem hi]; rfl
theorem u8_c {z : Int} (h0 : 0 ≤ z) (h1 : z ≤ 255) : IntKind.i64.wrap z = z := by rw [IntKind.wrap_i64]; omega
theorem u8_a {z : Int} (h0 : 0 ≤ z) (h1 : z ≤ 255) : (IntKind.i64.wrap z).tmod 5 = z % 5 := by rw [u8_c h0 h1]; exact Int.tmod_eq_emod_of_nonneg h0
theorem u8_b {z : Int} (h0 : 0 ≤ z) (h1 : z ≤ 255) : IntKind.i64.wrap (1 + (IntKind.i64.wrap ((IntKind.i64.wrap z).tdiv 5)).tmod 2) = 1 + z / 5 % 2 := by
  rw [u8_c h0 h1, Int.tdiv_eq_ediv_of_nonneg h0, u8_c (z := z / 5) (by omega) (by omega), Int.tmod_eq_emod_of_nonneg (by omega), u8_c (by omega) (by omega)]
theorem u8_w {z : Int} (h0 : 0 ≤ z) (h1 : z ≤ 255) : IntKind.u8.wrap z = z := by simp only [IntKind.wrap_u8]; omega
theorem u8_e {z : Int} (h0 : 0 ≤ z) (h1 : z ≤ 255) : (z.tdiv 5).tmod 2 = z / 5 % 2 := by rw [Int.tdiv_eq_ediv_of_nonneg h0, Int.tmod_eq_emod_of_nonneg (by omega)]
theorem u8_d {z : Int} (h0 : 0 ≤ z) (h1 : z ≤ 255) : (IntKind.u8.wrap (z.tdiv 5)).tmod 2 = z / 5 % 2 := by
  rw [u8_w (by rw [Int.tdiv_eq_ediv_of_nonneg h0]; omega) (by rw [Int.tdiv_eq_ediv_of_nonneg h0]; omega), u8_e h0 h1]
/-- How a Put of the loop ends. -/
def PutN (w0 : World) (N b : Nat) (ms : List Int) (e : Ending) (w' : World) : Prop := ∃ k : Int, e = .returned (.int .i64 k) ∧ Hid (Since w0 w' N b ms)
set_option maxHeartbeats 12800000 in
set_option maxRecDepth 20000 in
theorem baseNewest_walk (a : Option Addr) (cap : Nat) (zs : List Int) (w : World) (hB : Bts w a zs) (hz : AreBytes zs) (hl : zs.length ≤ maxLen) : Calls Try.prog 4 #[.slice a zs.length cap] w fun e w' => e = .returned (.bool true) ∧ Below w.heap.size w w' := by
  unfold maxLen at hl
  have HBt : Hid (Bts w a zs) := hB
  have HZ : Hid (AreBytes zs) := hz
  clear hB hz
  by_cases h60 : 60 < zs.length
  · have h60I : 60 < (zs.length : Int) := by omega
    go_enter Try.func4, Try.ntmps4
    go_wp2_with fail
    refine (awake_any _).mono ?_
    rintro e w1 ⟨rfl, hb⟩
    go_wp2
    go_ret
    exact ⟨rfl, hb⟩
  · have h60I : (zs.length : Int) ≤ 60 := by omega
    go_enter Try.func4, Try.ntmps4
    go_wp2_with fail
    refine (new_any 100 w (by omega) (by omega)).mono ?_
    rintro e w1 ⟨rfl, rfl⟩
    have HS0 : Hid (Since w (w.alloc (.cells #[.int .i64 100, .slice none 0 0] 75)) w.heap.size w.heap.size []) := since_nil (new_keeps w 100) (below_new' _ _)
    generalize w.alloc (.cells #[.int .i64 100, .slice none 0 0] 75) = W at *
    go_wp2_with fail
    refine (num_any _ _).mono ?_
    rintro e w1 ⟨rfl, rfl⟩
    go_wp2_with fail
    go_loopw [5] (fun t wr => ∃ i : Nat, i ≤ zs.length ∧ t = .int .i64 i ∧ Hid (Since w wr w.heap.size w.heap.size (zs.take i))) (fun t _ => zs.length - (intOf t).toNat)
    case atStart => exact ⟨0, by omega, rfl, HS0.out⟩
    case round =>
      clear HS0
      obtain ⟨i, hi, rfl, HI⟩ := hrel
      by_cases hlt : i < zs.length
      · obtain ⟨lv, L, hk, hb, hll, hbw⟩ := HI.out
        have HK : Hid (Keeps wr w.heap.size w.heap.size 100 lv L) := hk
        have HB : Hid (Below w.heap.size w wr) := hbw
        have HBL : Hid (Best L (zs.take i) ∧ L.length ≤ (zs.take i).length) := ⟨hb, hll⟩
        clear hk hb hll hbw HI
        have hiI : (i : Int) < (zs.length : Int) := by omega
        obtain ⟨nb, off, rfl, hcell⟩ : ∃ nb off, a = some ⟨nb, off, none⟩ ∧ ∀ i, i < zs.length → w.cell? ⟨nb, off + i, none⟩ = some (.int .u8 (zs.getD i 0)) := by
          rcases HBt.out with h | h
          · rw [h] at hlt; simp at hlt
          · exact h
        have hzi := areBytes_getD HZ.out i
        have HTM : Hid (zs.take (i + 1) = zs.take i ++ [zs.getD i 0]) := take_more zs i hlt
        have hc := hcell i hlt
        have hnb : nb < w.heap.size := block_lt_of_cell hc
        have keepS : Hid (∀ X, Below w.heap.size w X → X.cell? ⟨nb, off + i, none⟩ = some (.int .u8 (zs.getD i 0)) ∧ Hid (Below w.heap.size w X)) := fun X hX => ⟨by rw [hX.cell hnb]; exact hc, hX⟩
        clear hcell hc
        obtain ⟨z, hze⟩ : ∃ z, zs.getD i 0 = z := ⟨_, rfl⟩
        rw [hze] at hzi HTM keepS
        clear hze
        obtain ⟨hz0, hz1⟩ := hzi
        have CG : Hid (∀ X : World, Below w.heap.size w X → Below wr.heap.size wr X → Calls Try.prog 28 #[.int .i64 ((IntKind.i64.wrap z).tmod 5), .int .i64 (IntKind.i64.wrap (1 + (IntKind.i64.wrap ((IntKind.i64.wrap z).tdiv 5)).tmod 2)), .int .i64 (IntKind.i64.wrap z)] X fun e w' => ∃ s1, e = .returned (.agg (lsaA s1 (rowN z))) ∧ Hid (Held w' s1 (rowN z) ∧ Nils s1 ∧ Below w.heap.size w w' ∧ Below wr.heap.size wr w')) := fun X hX hX2 => by
          rw [u8_a hz0 hz1, u8_b hz0 hz1, u8_c hz0 hz1]
          exact (group_any (z % 5) (1 + z / 5 % 2) z X (by omega) (by omega) (by omega)).mono fun e w' ⟨s1, h1, h2, h3, h4⟩ => ⟨s1, h1, h2, h3, hX.trans (h4.mono hX.size), hX2.trans (h4.mono hX2.size)⟩
        have CP : Hid (∀ (X : World) (s1 : Seats), Held X s1 (rowN z) ∧ Nils s1 ∧ Below w.heap.size w X ∧ Below wr.heap.size wr X → Calls Try.prog 13 #[.pointer (some ⟨w.heap.size, 0, none⟩), .agg (lsaA s1 (rowN z))] X (PutN w w.heap.size w.heap.size (zs.take (i + 1)))) := fun X s1 ⟨h1, h2, h3, h4⟩ => by
          rw [HTM.out]
          refine (put_best w.heap.size w.heap.size lv L (zs.take i) z s1 X (HK.out.below h4) HBL.out.1 HBL.out.2 (by rw [List.length_take]; omega) ⟨hz0, hz1⟩ h1 h2 h3.size).mono ?_
          rintro e w' ⟨k, rfl, lv', L', q1, q2, q3, q4⟩
          exact ⟨k, rfl, lv', L', q1, q2, q3, h3.trans q4⟩
        have hS0 := keepS.out _ HB.out.drew
        have HB2 : Hid (Below w.heap.size w wr.drew) := HB.out.drew
        have HB3 : Hid (Below wr.heap.size wr wr.drew) := (Below.refl _ _).drew
        clear HK HBL HTM HBt
        generalize rowN z = G at *
        go_upto_region 9 with fail
        go_region_held3 (fun X => X.cell? ⟨nb, off + i, none⟩ = some (.int .u8 z) ∧ Hid (Below w.heap.size w X)) (with_reducible first | exact hS0 | exact keepS.out _ hg.out.2.2.1 | exact keepS.out _ hbb.out | assumption | fail)
          (first | (go_at_call 28; refine (CG.out _ HB2.out HB3.out).mono ?_; rintro e w2 ⟨s1, rfl, hg⟩) | (go_at_call 13; refine (CP.out _ s1 hg.out).mono ?_; rintro e w3 ⟨k, rfl, hs⟩; have hbb : Hid (Below w.heap.size w w3) := hs.out.choose_spec.choose_spec.2.2.2))
        rename_i hSx
        clear hSx hS0 HB2 HB3 CG CP hg hbb keepS
        have HSS : Hid (Since w w3 w.heap.size w.heap.size (zs.take (i + 1))) := hs
        clear hs
        go_wp2
        go_roundw
        case rel => exact ⟨i + 1, by omega, by go_num, HSS⟩
        case measure => simp [intOf]; omega
      · have hie : zs.take i = zs := List.take_of_length_le (by omega)
        obtain ⟨lv, L, hk, hb, hll, hbw⟩ := HI.out
        rw [hie] at hb hll
        have HK : Hid (Keeps wr w.heap.size w.heap.size 100 lv L) := hk
        have HB : Hid (Below w.heap.size w wr) := hbw
        have HBL : Hid (Best L zs) := hb
        have hL60 : (L.length : Int) ≤ 60 := by omega
        have hiI : ¬ (i : Int) < (zs.length : Int) := by omega
        have CA := all_any w.heap.size w.heap.size 100 lv L wr hk
        clear hk hb hll hbw HI hie
        go_wp2_with fail
        refine CA.mono ?_
        rintro e w2 ⟨g, c, R, rfl, hgw, hRl, hRo, hRf, hb2⟩
        have HK2 : Hid (Keeps w2 w.heap.size w.heap.size 100 lv L) := HK.out.below hb2
        have HB2 : Hid (Below w.heap.size w w2) := below_more HB.out hb2 HB.out.size
        have HRO : Hid (R.length = L.length ∧ w2.ownsRow wr.heap.size 39 12 (.slice (some ⟨g, 0, none⟩) L.length c) L.length (cellsOf rowC R)) := ⟨hRl, hRo⟩
        have HRK : Hid (∀ j (h : j < L.length) (h' : j < R.length), rk R[j] = rk L[j]) := fun j h h' => by unfold rk; rw [(hRf j h h').1]
        have hlc : (L.length : Int) ≤ (c : Int) := by
          rcases hRo.2 with ⟨h1, h2⟩ | ⟨g', cap', cur, h1, _, _, h4, _⟩
          · simp at h1
          · simp only [Value.slice.injEq] at h1; omega
        clear hgw hRl hRo hRf hb2 CA HK HB
        go_wp2_with fail
        go_loopw [7] (fun t wr => ∃ q : Nat, q ≤ L.length ∧ t = .int .i64 q ∧ Hid (Below w2.heap.size w2 wr)) (fun t _ => L.length - (intOf t).toNat)
        case atStart => exact ⟨0, by omega, rfl, Below.refl _ _⟩
        case round =>
          obtain ⟨q, hq, rfl, HQ⟩ := hrel
          by_cases hqlt : q < L.length
          · have hqI : (q : Int) < (L.length : Int) := by omega
            by_cases hq0 : q = 0
            · subst hq0
              go_upto_region 14 with fail
              go_quiet (fail)
              have HQ2 : Hid (Below w2.heap.size w2 (wr.drewN nq)) := below_dr HQ.out nq
              go_wp2
              go_roundw
              case rel => exact ⟨1, by omega, by go_num, HQ2⟩
              case measure => simp [intOf]; omega
            · obtain ⟨p, hp⟩ : ∃ p, q = p + 1 := ⟨q - 1, by omega⟩
              have hra := own_row HRO.out.1.symm HRO.out.2 p (by rw [HRO.out.1]; omega)
              have hrb := own_row HRO.out.1.symm HRO.out.2 q (by rw [HRO.out.1]; omega)
              have HLT : Hid (agZ (rk (R[p]'(by rw [HRO.out.1]; omega))) (rk (R[q]'(by rw [HRO.out.1]; omega))) < 0) := by
                show agZ _ _ < 0
                rw [HRK.out p (by omega) (by rw [HRO.out.1]; omega), HRK.out q hqlt (by rw [HRO.out.1]; omega)]
                exact rising_lt HK2.out.rising p q (by omega) hqlt
              generalize R[p]'(by rw [HRO.out.1]; omega) = r0 at *
              generalize R[q]'(by rw [HRO.out.1]; omega) = r1 at *
              have keepS : Hid (∀ X, Below w2.heap.size w2 X → X.cell? ⟨g, p * 12, none⟩ = some (.int .i64 r0.2.head.age) ∧ X.cell? ⟨g, p * 12 + 1, none⟩ = some (.int .i64 r0.2.head.kind) ∧ X.cell? ⟨g, p * 12 + 2, none⟩ = some (.int .i64 r0.2.head.id) ∧ X.cell? ⟨g, p * 12 + 3, none⟩ = some (.int .i64 r0.2.head.adv) ∧ X.cell? ⟨g, p * 12 + 4, none⟩ = some (.int .i64 r0.2.head.seq) ∧ X.cell? ⟨g, p * 12 + 5, none⟩ = some (.int .i64 r0.2.head.sum) ∧ X.cell? ⟨g, p * 12 + 6, none⟩ = some (.int .i64 r0.2.head.len) ∧ X.cell? ⟨g, q * 12, none⟩ = some (.int .i64 r1.2.head.age) ∧ X.cell? ⟨g, q * 12 + 1, none⟩ = some (.int .i64 r1.2.head.kind) ∧ X.cell? ⟨g, q * 12 + 2, none⟩ = some (.int .i64 r1.2.head.id) ∧ X.cell? ⟨g, q * 12 + 3, none⟩ = some (.int .i64 r1.2.head.adv) ∧ X.cell? ⟨g, q * 12 + 4, none⟩ = some (.int .i64 r1.2.head.seq) ∧ X.cell? ⟨g, q * 12 + 5, none⟩ = some (.int .i64 r1.2.head.sum) ∧ X.cell? ⟨g, q * 12 + 6, none⟩ = some (.int .i64 r1.2.head.len) ∧ Hid (Below w2.heap.size w2 X)) := by
                intro X hX
                obtain ⟨c0, c1, c2, c3, c4, c5, c6, -, -, -, -, -⟩ := hra.below hX hra.lt
                obtain ⟨d0, d1, d2, d3, d4, d5, d6, -, -, -, -, -⟩ := hrb.below hX hrb.lt
                exact ⟨c0, c1, c2, c3, c4, c5, c6, d0, d1, d2, d3, d4, d5, d6, hX⟩
              have hS0 := keepS.out _ HQ.out.drew
              have HQd : Hid (Below w2.heap.size w2 wr.drew) := HQ.out.drew
              have CK0 : Hid (∀ X, Below w2.heap.size w2 X → Calls Try.prog 30 #[.agg (headA r0.2.head)] X fun e w' => e = .returned (.agg (keyV (rk r0))) ∧ Hid (Below w2.heap.size w2 w')) := fun X hX => (dkeyOf_any r0.2.head X).mono fun e w' h => ⟨h.1, hX.trans (h.2.mono hX.size)⟩
              have CK1 : Hid (∀ X, Below w2.heap.size w2 X → Calls Try.prog 30 #[.agg (headA r1.2.head)] X fun e w' => e = .returned (.agg (keyV (rk r1))) ∧ Hid (Below w2.heap.size w2 w')) := fun X hX => (dkeyOf_any r1.2.head X).mono fun e w' h => ⟨h.1, hX.trans (h.2.mono hX.size)⟩
              have CL : Hid (∀ X, Below w2.heap.size w2 X → Calls Try.prog 29 #[.agg (keyV (rk r0)), .agg (keyV (rk r1))] X fun e w' => e = .returned (.bool true) ∧ Hid (Below w2.heap.size w2 w')) := fun X hX => (less_any (rk r0) (rk r1) X).mono fun e w' h => ⟨by rw [h.1, decide_eq_true HLT.out], hX.trans (h.2.mono hX.size)⟩
              clear hra hrb HLT
              have hqa : (0 : Int) < (q : Int) := by omega
              have hqb : ((q : Int) - 1) = (p : Int) := by omega
              have hqc : IntKind.i64.wrap ((q : Int) - 1) = (p : Int) := by rw [IntKind.wrap_i64]; omega
              have hqd : (p : Int) < (L.length : Int) := by omega
              have hqN : 0 < q := by omega
              have hqe : decide ((0 : Int) < (q : Int)) = true := by simp; omega
              have hpN : p < L.length := by omega
              have hqf : IntKind.i64.wrap (p : Int) = (p : Int) := by rw [IntKind.wrap_i64]; omega
              have hq1I : (1 : Int) ≤ (q : Int) := by omega
              have hq1N : 1 ≤ q := by omega
              clear hp hq0
              go_upto_region 14 with fail
              go_region_held3 (fun X => X.cell? ⟨g, p * 12, none⟩ = some (.int .i64 r0.2.head.age) ∧ X.cell? ⟨g, p * 12 + 1, none⟩ = some (.int .i64 r0.2.head.kind) ∧ X.cell? ⟨g, p * 12 + 2, none⟩ = some (.int .i64 r0.2.head.id) ∧ X.cell? ⟨g, p * 12 + 3, none⟩ = some (.int .i64 r0.2.head.adv) ∧ X.cell? ⟨g, p * 12 + 4, none⟩ = some (.int .i64 r0.2.head.seq) ∧ X.cell? ⟨g, p * 12 + 5, none⟩ = some (.int .i64 r0.2.head.sum) ∧ X.cell? ⟨g, p * 12 + 6, none⟩ = some (.int .i64 r0.2.head.len) ∧ X.cell? ⟨g, q * 12, none⟩ = some (.int .i64 r1.2.head.age) ∧ X.cell? ⟨g, q * 12 + 1, none⟩ = some (.int .i64 r1.2.head.kind) ∧ X.cell? ⟨g, q * 12 + 2, none⟩ = some (.int .i64 r1.2.head.id) ∧ X.cell? ⟨g, q * 12 + 3, none⟩ = some (.int .i64 r1.2.head.adv) ∧ X.cell? ⟨g, q * 12 + 4, none⟩ = some (.int .i64 r1.2.head.seq) ∧ X.cell? ⟨g, q * 12 + 5, none⟩ = some (.int .i64 r1.2.head.sum) ∧ X.cell? ⟨g, q * 12 + 6, none⟩ = some (.int .i64 r1.2.head.len) ∧ Hid (Below w2.heap.size w2 X)) (with_reducible first | exact hS0 | exact keepS.out _ hk1.out | exact keepS.out _ hk2.out | exact keepS.out _ hk3.out | assumption | fail)
                (first | (go_at_call_of 30 (Value.int .i64 r0.2.head.age); refine (CK0.out _ (by go_split_ands; exact Hid.out (by assumption))).mono ?_; rintro e v1 ⟨rfl, hk1⟩) | (go_at_call_of 30 (Value.int .i64 r1.2.head.age); refine (CK1.out _ (by go_split_ands; exact Hid.out (by assumption))).mono ?_; rintro e v2 ⟨rfl, hk2⟩) | (go_at_call 29; refine (CL.out _ (by go_split_ands; exact Hid.out (by assumption))).mono ?_; rintro e v3 ⟨rfl, hk3⟩))
              rename_i hSx
              clear hSx hS0 keepS CK0 CK1 CL hk1 hk2 hqa hqb hqc hqd hqN hqe hpN hqf hq1I hq1N HQd
              go_wp2
              go_roundw
              case rel => exact ⟨q + 1, by omega, by go_num, hk3⟩
              case measure => simp [intOf]; omega
          · have hqI : ¬ (q : Int) < (L.length : Int) := by omega
            have HK3 : Hid (Keeps wr w.heap.size w.heap.size 100 lv L) := HK2.out.below HQ.out
            have HB3 : Hid (Below w.heap.size w wr) := below_more HB2.out HQ.out HB2.out.size
            clear HK2 HB2 HRO HRK HQ hlc
            go_wp2_with fail
            go_loopw [8] (fun t wv => ∃ m : Nat, m ≤ zs.length ∧ t = .int .i64 m ∧ Hid (Keeps wv w.heap.size w.heap.size 100 lv L) ∧ Hid (Below w.heap.size w wv)) (fun t _ => zs.length - (intOf t).toNat)
            case atStart => exact ⟨0, by omega, rfl, HK3.out, HB3.out⟩
            case round =>
              clear HK3 HB3
              obtain ⟨m, hm, rfl, HK3, HB3⟩ := hrel
              by_cases hmlt : m < zs.length
              · have hmI : (m : Int) < (zs.length : Int) := by omega
                obtain ⟨nb, off, rfl, hcell⟩ : ∃ nb off, a = some ⟨nb, off, none⟩ ∧ ∀ i, i < zs.length → w.cell? ⟨nb, off + i, none⟩ = some (.int .u8 (zs.getD i 0)) := by
                  rcases HBt.out with h | h
                  · rw [h] at hmlt; simp at hmlt
                  · exact h
                have hnb : nb < w.heap.size := block_lt_of_cell (hcell m hmlt)
                have HCE : Hid (∀ i, i < zs.length → ∀ X, Below w.heap.size w X → X.cell? ⟨nb, off + i, none⟩ = some (.int .u8 (zs.getD i 0))) := fun i hi X hX => by rw [hX.cell hnb]; exact hcell i hi
                clear hcell hnb HBt
                have hzm := areBytes_getD HZ.out m
                have HMEM : Hid (zs.getD m 0 ∈ zs) := by
                  show _ ∈ zs
                  rw [List.getD_eq_getElem?_getD, List.getElem?_eq_getElem hmlt]; exact List.getElem_mem hmlt
                have HCM : Hid (∀ X, Below w.heap.size w X → X.cell? ⟨nb, off + m, none⟩ = some (.int .u8 (zs.getD m 0))) := HCE.out m hmlt
                obtain ⟨z, hze⟩ : ∃ z, zs.getD m 0 = z := ⟨_, rfl⟩
                rw [hze] at hzm HMEM HCM
                clear hze
                obtain ⟨hz0, hz1⟩ := hzm
                go_wp2_with fail
                go_loopw [9, 10] (fun u v wv => ∃ (k : Nat) (x : Int), k ≤ zs.length ∧ v = .int .i64 k ∧ u = .int .i64 x ∧ 0 ≤ x ∧ x ≤ 255 ∧ Hid (∀ n ∈ zs.take k, keyN n = keyN z → n ≤ x) ∧ Hid (x = 0 ∨ (x ∈ zs ∧ keyN x = keyN z)) ∧ Hid (Keeps wv w.heap.size w.heap.size 100 lv L) ∧ Hid (Below w.heap.size w wv)) (fun _ v _ => zs.length - (intOf v).toNat)
                case atStart => exact ⟨0, 0, by omega, rfl, rfl, by omega, by omega, fun n hn => absurd hn (by simp), .inl rfl, HK3.out, HB3.out⟩
                case round =>
                  clear HK3 HB3
                  obtain ⟨k, x, hk, rfl, rfl, hx0, hx1, HM1, HM2, HK3, HB3⟩ := hrel
                  by_cases hklt : k < zs.length
                  · have hkI : (k : Int) < (zs.length : Int) := by omega
                    have HCK := HCE.out k hklt
                    have hzk := areBytes_getD HZ.out k
                    have HTM : Hid (zs.take (k + 1) = zs.take k ++ [zs.getD k 0]) := take_more zs k hklt
                    have HKM : Hid (zs.getD k 0 ∈ zs) := by
                      show _ ∈ zs
                      rw [List.getD_eq_getElem?_getD, List.getElem?_eq_getElem hklt]; exact List.getElem_mem hklt
                    obtain ⟨y, hye⟩ : ∃ y, zs.getD k 0 = y := ⟨_, rfl⟩
                    rw [hye] at hzk HCK HTM HKM
                    clear hye
                    obtain ⟨hy0, hy1⟩ := hzk
                    have cm := HCM.out _ HB3.out
                    have ck := HCK _ HB3.out
                    clear HCK
                    by_cases hA : keyN y = keyN z
                    · obtain ⟨e1, e2⟩ := keyN_eq hA
                      have g1 : (y.tmod 5 == z.tmod 5) = true := by rw [Int.tmod_eq_emod_of_nonneg hy0, Int.tmod_eq_emod_of_nonneg hz0, e1]; simp
                      have g2 : ((IntKind.u8.wrap (y.tdiv 5)).tmod 2 == (IntKind.u8.wrap (z.tdiv 5)).tmod 2) = true := by rw [u8_d hy0 hy1, u8_d hz0 hz1, e2]; simp
                      have g3 : ((y.tdiv 5).tmod 2 == (z.tdiv 5).tmod 2) = true := by rw [u8_e hy0 hy1, u8_e hz0 hz1, e2]; simp
                      clear e1 e2
                      go_upto_region 23 with fail
                      go_quiet (fail)
                      have HB4 : Hid (Below w.heap.size w (wr.drewN nq)) := below_dr HB3.out nq
                      have HK4 : Hid (Keeps (wr.drewN nq) w.heap.size w.heap.size 100 lv L) := HK3.out.below (below_dr (Below.refl _ _) nq)
                      have cy : (wr.drewN nq).cell? ⟨nb, off + k, none⟩ = some (.int .u8 y) := ck
                      have HA : Hid (keyN y = keyN z) := hA
                      clear HB3 HK3 cm ck g1 g2 g3 hA
                      generalize wr.drewN nq = V at *
                      have HM3 : Hid (∀ n ∈ zs.take (k + 1), keyN n = keyN z → n ≤ max x y) := by
                        intro n hn hk'
                        rw [HTM.out] at hn
                        rcases List.mem_append.1 hn with h' | h'
                        · have := HM1.out n h' hk'; omega
                        · obtain rfl := List.mem_singleton.1 h'; omega
                      have HM4 : Hid (max x y = 0 ∨ (max x y ∈ zs ∧ keyN (max x y) = keyN z)) := by
                        rcases Int.le_total x y with h | h
                        · rw [Int.max_eq_right h]; exact .inr ⟨HKM.out, HA.out⟩
                        · rw [Int.max_eq_left h]; exact HM2.out
                      clear HM1 HM2 HTM HKM HA
                      go_wp2
                      refine ⟨⟨k + 1, max x y, by omega, by go_num, rfl, by omega, by omega, HM3, HM4, HK4, HB4⟩, by simp [intOf]; omega⟩
                    · have HM3 : Hid (∀ n ∈ zs.take (k + 1), keyN n = keyN z → n ≤ x) := by
                        intro n hn hk'
                        rw [HTM.out] at hn
                        rcases List.mem_append.1 hn with h' | h'
                        · exact HM1.out n h' hk'
                        · obtain rfl := List.mem_singleton.1 h'; exact absurd hk' hA
                      clear HM1 HTM HKM
                      by_cases h5 : y % 5 = z % 5
                      · have g1 : (y.tmod 5 == z.tmod 5) = true := by rw [Int.tmod_eq_emod_of_nonneg hy0, Int.tmod_eq_emod_of_nonneg hz0, h5]; simp
                        have hne : ¬ y / 5 % 2 = z / 5 % 2 := fun h => hA (keyN_of h5 h)
                        have GG : ((IntKind.u8.wrap (y.tdiv 5)).tmod 2 == (IntKind.u8.wrap (z.tdiv 5)).tmod 2) = false := by rw [u8_d hy0 hy1, u8_d hz0 hz1]; simpa using hne
                        have g3 : ((y.tdiv 5).tmod 2 == (z.tdiv 5).tmod 2) = false := by rw [u8_e hy0 hy1, u8_e hz0 hz1]; simpa using hne
                        clear hne hA h5
                        go_upto_region 23 with fail
                        go_quiet (fail)
                        have HB4 : Hid (Below w.heap.size w (wr.drewN nq)) := below_dr HB3.out nq
                        have HK4 : Hid (Keeps (wr.drewN nq) w.heap.size w.heap.size 100 lv L) := HK3.out.below (below_dr (Below.refl _ _) nq)
                        clear HB3 HK3 cm ck g1 GG g3
                        generalize wr.drewN nq = V at *
                        go_wp2
                        refine ⟨⟨k + 1, x, by omega, by go_num, rfl, hx0, hx1, HM3.out, HM2, HK4, HB4⟩, by simp [intOf]; omega⟩
                      · have g1 : ¬ y.tmod 5 = z.tmod 5 := by rw [Int.tmod_eq_emod_of_nonneg hy0, Int.tmod_eq_emod_of_nonneg hz0]; exact h5
                        have GG : True := trivial
                        clear hA h5
                        go_upto_region 23 with fail
                        go_quiet (fail)
                        have HB4 : Hid (Below w.heap.size w (wr.drewN nq)) := below_dr HB3.out nq
                        have HK4 : Hid (Keeps (wr.drewN nq) w.heap.size w.heap.size 100 lv L) := HK3.out.below (below_dr (Below.refl _ _) nq)
                        clear HB3 HK3 cm ck g1 GG
                        generalize wr.drewN nq = V at *
                        go_wp2
                        refine ⟨⟨k + 1, x, by omega, by go_num, rfl, hx0, hx1, HM3.out, HM2, HK4, HB4⟩, by simp [intOf]; omega⟩
                  · have hkI : ¬ (k : Int) < (zs.length : Int) := by omega
                    have hkz : zs.take k = zs := List.take_of_length_le (by omega)
                    have HG : Hid (∃ r n0, L[posZ L (keyN z)]? = some r ∧ thereB L (keyN z) = true ∧ r.2.head.seq = x ∧ n0 = x) := by
                      have h1 := HM1.out
                      rw [hkz] at h1
                      obtain ⟨q1, r, n0, q2, q3, q4, q5, q6⟩ := best_got HBL.out HK3.out.rising HMEM.out
                      have h2 := h1 n0 q4 q5
                      have h3 : n0 = x := by
                        rcases HM2.out with h | ⟨h, h'⟩
                        · have := (List.mem_iff_getElem.1 q4)
                          obtain ⟨j, hj, e⟩ := this
                          have hb := HZ.out n0 q4
                          omega
                        · have := q6 x h h'; omega
                      exact ⟨r, n0, q2, q1, by rw [q3, rowN_seq]; exact h3, h3⟩
                    clear HM1 HM2 hkz
                    obtain ⟨r, n0, hr, hth, hsq, -⟩ := HG.out
                    have cm := HCM.out _ HB3.out
                    have HSQ : Hid (r.2.head.seq = x) := hsq
                    have CGET : Hid (∀ X, Below wr.heap.size wr X → Calls Try.prog 16 #[.pointer (some ⟨w.heap.size, 0, none⟩), .agg #[.int .i64 6, .int .i64 ((IntKind.i64.wrap z).tmod 5), .int .i64 (IntKind.i64.wrap (1 + (IntKind.i64.wrap ((IntKind.i64.wrap z).tdiv 5)).tmod 2))]] X fun e w' => ∃ s1, e = .returned (.tuple #[.agg (lsaA s1 r.2), .bool true]) ∧ Hid (Below X.heap.size X w')) := fun X hX => by
                      rw [u8_a hz0 hz1, u8_b hz0 hz1]
                      exact (get_yes w.heap.size w.heap.size 100 lv L (keyN z) X (HK3.out.below hX) hth r hr).mono fun e w' ⟨s1, h1, _, _, h2⟩ => ⟨s1, h1, h2⟩
                    have hwv : nb < wr.heap.size := block_lt_of_cell cm
                    have C1 : Calls _ _ _ _ _ := (CGET.out wr.drew (Below.refl _ _).drew).mono (R' := fun e w' => ∃ s1, e = .returned (.tuple #[.agg (lsaA s1 r.2), .bool true]) ∧ Hid (Below wr.heap.size wr w')) fun e w' ⟨s1, h1, h2⟩ => ⟨s1, h1, ((Below.refl _ _).drew).trans h2⟩
                    have C2 : Calls _ _ _ _ _ := (CGET.out (wr.alloc (.cells #[.int .i64 0, .int .i64 0, .int .i64 0, .int .i64 0, .int .i64 0, .int .i64 0, .int .i64 0, .int .i64 0, .slice none 0 0, .int .i64 0, .slice none 0 0, .slice none 0 0] 39)).drew ((Below.refl _ _).alloc (Nat.le_refl _) _).drew).mono (R' := fun e w' => ∃ s1, e = .returned (.tuple #[.agg (lsaA s1 r.2), .bool true]) ∧ Hid (Below wr.heap.size wr w' ∧ Var w' wr.heap.size zero12)) fun e w' ⟨s1, h1, h2⟩ => ⟨s1, h1, (((Below.refl _ _).alloc (Nat.le_refl _) _).drew).trans (h2.mono (by simp)), (var_new wr zero12 39).drew.below h2 (by simp)⟩
                    clear CGET hr hth hsq HG
                    have hS0 : wr.drew.cell? ⟨nb, off + m, none⟩ = some (.int .u8 z) := cm
                    have hS1 : (wr.alloc (.cells #[.int .i64 0, .int .i64 0, .int .i64 0, .int .i64 0, .int .i64 0, .int .i64 0, .int .i64 0, .int .i64 0, .slice none 0 0, .int .i64 0, .slice none 0 0, .slice none 0 0] 39)).drew.cell? ⟨nb, off + m, none⟩ = some (.int .u8 z) := by
                      rw [← cm]; exact ((Below.refl _ _).alloc (Nat.le_refl _) _).drew.cell (p := ⟨nb, off + m, none⟩) hwv
                    have keepS : Hid (∀ X, Below wr.heap.size wr X → X.cell? ⟨nb, off + m, none⟩ = some (.int .u8 z)) := fun X hX => by rw [hX.cell (p := ⟨nb, off + m, none⟩) hwv]; exact cm
                    go_upto_region 25 with fail
                    go_cut [11, 12] from 83 to 156 (fun u v wx => ∃ P : Nat, u = .pointer (some ⟨P, 0, none⟩) ∧ v = .bool true ∧ wx.cell? ⟨P, 4, none⟩ = some (.int .i64 r.2.head.seq) ∧ Hid (Below wr.heap.size wr wx))
                    case first =>
                      go_region_held3 (fun X => X.cell? ⟨nb, off + m, none⟩ = some (.int .u8 z)) (with_reducible first | exact hS0 | exact hS1 | exact keepS.out _ hk.out | exact keepS.out _ hk.out.1 | exact keepS.out _ (Below.alloc hk.out hk.out.size _) | exact keepS.out _ (below_put12 hk.out.1 (Nat.le_refl _) (.int .i64 r.2.head.age) (.int .i64 r.2.head.kind) (.int .i64 r.2.head.id) (.int .i64 r.2.head.adv) (.int .i64 r.2.head.seq) (.int .i64 r.2.head.sum) (.int .i64 r.2.head.len) (.int .i64 r.2.flags) (.slice s1.la r.2.links.length s1.lc) (.int .i64 r.2.bits) (.slice s1.ra r.2.routers.length s1.rc) (.slice s1.va r.2.verts.length s1.vc)) | assumption | fail)
                        (first | (go_at_call 16; show Calls _ _ _ wr.drew _; refine C1.mono ?_; rintro e w4 ⟨s1, rfl, hk⟩) | (go_at_call 16; refine C2.mono ?_; rintro e w4 ⟨s1, rfl, hk⟩; have v0 := hk.out.2.cell 0 rfl; have z0 := hk.out.2.frozen 0; have v1 := hk.out.2.cell 1 rfl; have z1 := hk.out.2.frozen 1; have v2 := hk.out.2.cell 2 rfl; have z2 := hk.out.2.frozen 2; have v3 := hk.out.2.cell 3 rfl; have z3 := hk.out.2.frozen 3; have v4 := hk.out.2.cell 4 rfl; have z4 := hk.out.2.frozen 4; have v5 := hk.out.2.cell 5 rfl; have z5 := hk.out.2.frozen 5; have v6 := hk.out.2.cell 6 rfl; have z6 := hk.out.2.frozen 6; have v7 := hk.out.2.cell 7 rfl; have z7 := hk.out.2.frozen 7; have v8 := hk.out.2.cell 8 rfl; have z8 := hk.out.2.frozen 8; have v9 := hk.out.2.cell 9 rfl; have z9 := hk.out.2.frozen 9; have v10 := hk.out.2.cell 10 rfl; have z10 := hk.out.2.frozen 10; have v11 := hk.out.2.cell 11 rfl; have z11 := hk.out.2.frozen 11))
                      all_goals (go_wp2_with fail; go_meet)
                      · exact ⟨_, rfl, rfl, (var_new w4 [(.int .i64 r.2.head.age), (.int .i64 r.2.head.kind), (.int .i64 r.2.head.id), (.int .i64 r.2.head.adv), (.int .i64 r.2.head.seq), (.int .i64 r.2.head.sum), (.int .i64 r.2.head.len), (.int .i64 r.2.flags), (.slice s1.la r.2.links.length s1.lc), (.int .i64 r.2.bits), (.slice s1.ra r.2.routers.length s1.rc), (.slice s1.va r.2.verts.length s1.vc)] 39).cell 4 rfl, hk.out.alloc hk.out.size _⟩
                      · exact ⟨_, rfl, rfl, (hk.out.2.put12 (.int .i64 r.2.head.age) (.int .i64 r.2.head.kind) (.int .i64 r.2.head.id) (.int .i64 r.2.head.adv) (.int .i64 r.2.head.seq) (.int .i64 r.2.head.sum) (.int .i64 r.2.head.len) (.int .i64 r.2.flags) (.slice s1.la r.2.links.length s1.lc) (.int .i64 r.2.bits) (.slice s1.ra r.2.routers.length s1.rc) (.slice s1.va r.2.verts.length s1.vc)).cell 4 rfl, below_put12 hk.out.1 (Nat.le_refl _) (.int .i64 r.2.head.age) (.int .i64 r.2.head.kind) (.int .i64 r.2.head.id) (.int .i64 r.2.head.adv) (.int .i64 r.2.head.seq) (.int .i64 r.2.head.sum) (.int .i64 r.2.head.len) (.int .i64 r.2.flags) (.slice s1.la r.2.links.length s1.lc) (.int .i64 r.2.bits) (.slice s1.ra r.2.routers.length s1.rc) (.slice s1.va r.2.verts.length s1.vc)⟩
                    case rest =>
                      obtain ⟨P, rfl, rfl, cP, HC⟩ := hcut
                      rw [HSQ.out] at cP
                      have HK4 : Hid (Keeps wc w.heap.size w.heap.size 100 lv L) := HK3.out.below HC.out
                      have HB4 : Hid (Below w.heap.size w wc) := below_more HB3.out HC.out HB3.out.size
                      clear HK3 HB3 HC C1 C2 hS0 hS1 keepS cm HSQ hwv
                      go_wp2
                      refine ⟨⟨m + 1, by omega, by go_num, HK4, HB4⟩, by simp [intOf]; omega⟩
              · have hmI : ¬ (m : Int) < (zs.length : Int) := by omega
                have CW := awake_any wr
                go_wp2_with fail
                refine CW.mono ?_
                rintro e w9 ⟨rfl, hb9⟩
                have HB9 : Hid (Below w.heap.size w w9) := below_more HB3.out hb9 HB3.out.size
                clear hb9 CW HK3 HB3
                go_wp2
                go_ret
                exact ⟨rfl, HB9.out⟩
end Go.Proofs.Ytibbhfmpgpkdaaa
