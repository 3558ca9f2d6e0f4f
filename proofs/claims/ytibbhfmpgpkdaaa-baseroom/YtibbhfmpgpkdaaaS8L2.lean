/- So many are there, and no more: the walk. -/
import Derived.Test.YtibbhfmpgpkdaaaS8L0
import Derived.Test.YtibbhfmpgpkdaaaX8C
namespace Go.Proofs.Ytibbhfmpgpkdaaa
open Go.RowKit
set_option linter.unusedVariables false

/-- The rows are those of the groups 0, 1, .. -/
def RG (L : List Row) : Prop := ∀ j (h : j < L.length), L[j].2 = grpZ' j 1 5
theorem rg_key {L : List Row} (h : RG L) (j : Nat) (hj : j < L.length) : rk L[j] = ⟨6, j, 1⟩ := by unfold rk; rw [h j hj, grp_key]
theorem ag_id {a b : Int} (h : a < b) : agZ ⟨6, a, 1⟩ ⟨6, b, 1⟩ < 0 := agZ_neg.2 (.inr ⟨rfl, .inl h⟩)
theorem rg_pos {L : List Row} (h : RG L) (i : Nat) (hi : L.length ≤ i) : posZ L ⟨6, i, 1⟩ = L.length ∧ thereB L ⟨6, i, 1⟩ = false := by
  have hp : posZ L ⟨6, i, 1⟩ = L.length := posZ_is L _ L.length (Nat.le_refl _) (fun j hj _ => by rw [rg_key h j hj]; exact ag_id (by omega)) (fun hc => absurd hc (by omega))
  refine ⟨hp, ?_⟩
  unfold thereB; rw [hp, List.getElem?_eq_none (Nat.le_refl _)]
theorem rg_ins {L : List Row} (h : RG L) (s : Seats) : RG (insL L L.length (s, grpZ' L.length 1 5)) := by
  intro j hj
  rw [insL_len] at hj
  unfold insL
  by_cases hlt : j < L.length
  · simp only [List.take_length, List.drop_length]
    rw [List.getElem_append_left hlt]; exact h j hlt
  · obtain rfl : j = L.length := by omega
    simp
theorem newI_neg {a s m a' s' m' : Int} (h : s < s') : ¬ 0 < newI a s m a' s' m' := by rw [newI_swap, newI_seq h]; omega
set_option maxHeartbeats 6400000 in
theorem baseRoom_walk (x y : Int) (w : World) (hx : 0 ≤ x ∧ x ≤ 255) (hy : 0 ≤ y ∧ y ≤ 255) : Calls Try.prog 5 #[.int .u8 x, .int .u8 y] w fun e w' => e = .returned (.bool true) ∧ Below w.heap.size w w' := by
  obtain ⟨K, hK⟩ : ∃ K : Nat, 1 + x % 30 = (K : Int) := ⟨(1 + x % 30).toNat, by omega⟩
  obtain ⟨M, hM⟩ : ∃ M : Nat, y % 9 = (M : Int) := ⟨(y % 9).toNat, by omega⟩
  have hK1 : 1 ≤ K ∧ K ≤ 30 := by omega
  have hM1 : M ≤ 8 := by omega
  have C0 := fun (i : Nat) (h : i ≤ 100) => group_any i 1 5
  have C1 := group_any 0 1 6
  have C9 := group_any 99 1 5
  go_enter Try.func5, Try.ntmps5
  go_wp2_with fail
  refine (new_any K w (by omega) (by omega)).mono ?_
  rintro e w1 ⟨rfl, rfl⟩
  have HK0 : Hid (Keeps (w.alloc (.cells #[.int .i64 K, .slice none 0 0] 75)) w.heap.size w.heap.size K (.slice none 0 0) []) := new_keeps w K
  have HB0 : Hid (Below w.heap.size w (w.alloc (.cells #[.int .i64 K, .slice none 0 0] 75))) := below_new' _ _
  generalize w.alloc (.cells #[.int .i64 K, .slice none 0 0] 75) = W at *
  go_wp2_with fail
  refine (num_any _ _).mono ?_
  rintro e w1 ⟨rfl, rfl⟩
  go_wp2_with fail
  go_loopw [8] (fun t wr => ∃ i : Nat, i ≤ K + M ∧ t = .int .i64 i ∧ Hid (∃ lv L, Keeps wr w.heap.size w.heap.size K lv L ∧ RG L ∧ L.length = min i K) ∧ Hid (Below w.heap.size w wr)) (fun t _ => K + M - (intOf t).toNat)
  case atStart => exact ⟨0, by omega, rfl, ⟨_, [], HK0.out, fun j h => absurd h (by simp), by simp⟩, HB0.out⟩
  case round =>
    obtain ⟨i, hi, rfl, HI, HB⟩ := hrel
    by_cases hlt : i < K + M
    · obtain ⟨lv, L, hk, hg, hl⟩ := HI.out
      have HLK : Hid (Keeps wr w.heap.size w.heap.size K lv L) := hk
      have HG : Hid (RG L) := hg
      have HL : Hid (L.length = min i K) := hl
      clear hk hg hl HI
      have hI : (i : Int) < (K : Int) + (M : Int) := by omega
      have hi0 : (i : Int) ≤ 100 := by omega
      go_wp2_with fail
      refine (C0 i (by omega) _ (by omega) (by omega) (by omega)).mono ?_
      rintro e w2 ⟨s1, rfl, hh, hn, hb⟩
      replace HLK : Hid (Keeps w2 w.heap.size w.heap.size K lv L) := HLK.out.below hb
      replace HB : Hid (Below w.heap.size w w2) := below_more HB.out hb HB.out.size
      have HH : Hid (Held w2 s1 (grpZ' i 1 5) ∧ Nils s1) := ⟨hh, hn⟩
      clear hb hh hn
      by_cases hik : i < K
      · have hll : L.length = i := by have := HL.out; omega
        have hpt := rg_pos HG.out i (by omega)
        have CP := put_ins w.heap.size w.heap.size K lv L s1 (grpZ' i 1 5) w2 HLK.out HH.out.1 (grp_mid i 1 5) HH.out.2 HB.out.size (grp_sealed (by omega) (by omega) (by omega)) (by rw [grp_key]; exact hpt.2) (by omega) (by omega) (insOk_any _ _ (posZ_le _ _))
        clear hpt
        have hikI : (i : Int) < (K : Int) := by omega
        have HLL : Hid (L.length = i) := hll
        clear hll
        go_wp2_with fail
        refine CP.mono ?_
        rintro e w3 ⟨lv3, s2, rfl, hk3, ht3, hh3⟩
        have HR : Hid (∃ lv L, Keeps w3 w.heap.size w.heap.size K lv L ∧ RG L ∧ L.length = min (i + 1) K) := by
          refine ⟨lv3, _, hk3, ?_, ?_⟩
          · have := rg_ins HG.out s2
            rw [grp_key, (rg_pos HG.out i (by have := HLL.out; omega)).1]
            rw [show grpZ' i 1 5 = grpZ' L.length 1 5 by rw [HLL.out]]; exact this
          · rw [insL_len, HLL.out]; omega
        have HB3 : Hid (Below w.heap.size w w3) := HB.out.trans (ht3.below HB.out.size (Nat.le_refl _) (fun k hk => (World.ownsRow.lt HLK.out.own k hk).1))
        clear hk3 ht3 hh3 CP
        go_wp2_with (go_at_call 12; refine (num_any _ _).mono ?_; rintro e w' ⟨rfl, rfl⟩)
        go_roundw
        case rel => exact ⟨i + 1, by omega, by go_num, HR, HB3⟩
        case measure => simp [intOf]; omega
      · have hll : L.length = K := by have := HL.out; omega
        have hpt := rg_pos HG.out i (by omega)
        have CP := put_full w.heap.size w.heap.size K lv L s1 (grpZ' i 1 5) w2 HLK.out HH.out.1 (grp_mid i 1 5) HH.out.2 (grp_sealed (by omega) (by omega) (by omega)) (by rw [grp_key]; exact hpt.2) (by omega)
        clear hpt
        have hikI : ¬ (i : Int) < (K : Int) := by omega
        have HLL : Hid (L.length = K) := hll
        clear hll
        go_wp2_with fail
        refine CP.mono ?_
        rintro e w3 ⟨rfl, hb⟩
        have HR : Hid (∃ lv L, Keeps w3 w.heap.size w.heap.size K lv L ∧ RG L ∧ L.length = min (i + 1) K) := ⟨lv, L, HLK.out.below hb, HG.out, by rw [HLL.out]; omega⟩
        have HB3 : Hid (Below w.heap.size w w3) := below_more HB.out hb HB.out.size
        clear hb CP
        go_wp2_with (go_at_call 12; refine (num_any _ _).mono ?_; rintro e w' ⟨rfl, rfl⟩)
        go_roundw
        case rel => exact ⟨i + 1, by omega, by go_num, HR, HB3⟩
        case measure => simp [intOf]; omega
    · obtain ⟨lv, L, hk, hg, hl⟩ := HI.out
      have HLK : Hid (Keeps wr w.heap.size w.heap.size K lv L) := hk
      have HG : Hid (RG L) := hg
      have HL : Hid (L.length = K) := by show L.length = K; omega
      clear hk hg hl HI C0
      have hI : ¬ (i : Int) < (K : Int) + (M : Int) := by omega
      go_wp2_with fail
      refine (C1 _ (by omega) (by omega) (by omega)).mono ?_
      rintro e w2 ⟨s1, rfl, hh, hn, hb⟩
      replace HLK : Hid (Keeps w2 w.heap.size w.heap.size K lv L) := HLK.out.below hb
      replace HB : Hid (Below w.heap.size w w2) := below_more HB.out hb HB.out.size
      have h0 : 0 < L.length := by have := HL.out; omega
      have hk0 : rk L[0] = ⟨6, 0, 1⟩ := rg_key HG.out 0 h0
      have hp0 : posZ L ⟨6, 0, 1⟩ = 0 := posZ_is L _ 0 (by omega) (fun j hj h => absurd h (by omega)) (fun h => by rw [hk0, agZ_self]; omega)
      have CP := put_set w.heap.size w.heap.size K lv L s1 (grpZ' 0 1 6) w2 HLK.out hh (grp_mid 0 1 6) hn 0 L[0] (by rw [grp_key]; exact hp0) (List.getElem?_eq_getElem h0) (by rw [grp_key]; exact hk0) (grp_sealed (by omega) (by omega) (by omega)) (newI_neg (by rw [HG.out 0 h0, grp_seq, grp_seq]; omega))
      have HGK : Hid (rk L[0] = ⟨6, 0, 1⟩) := hk0
      clear hb hh hn hk0 hp0
      go_wp2_with fail
      refine CP.mono ?_
      rintro e w3 ⟨lv3, s2, rfl, hk3, ht3, hh3⟩
      have HK3 : Hid (Keeps w3 w.heap.size w.heap.size K lv3 (L.set 0 (s2, grpZ' 0 1 6))) := hk3
      have HB3 : Hid (Below w.heap.size w w3) := HB.out.trans (ht3.below HB.out.size (Nat.le_refl _) (fun k hk => (World.ownsRow.lt HLK.out.own k hk).1))
      clear hk3 ht3 hh3 CP
      have hs0 : 0 < (L.set 0 (s2, grpZ' 0 1 6)).length := by rw [List.length_set]; exact h0
      have hks : rk (L.set 0 (s2, grpZ' 0 1 6))[0] = ⟨6, 0, 1⟩ := by rw [List.getElem_set_self]; show keyZ _ = _; rw [grp_key]
      have hps : posZ (L.set 0 (s2, grpZ' 0 1 6)) ⟨6, 0, 1⟩ = 0 := posZ_is _ _ 0 (by omega) (fun j hj h => absurd h (by omega)) (fun h => by rw [hks, agZ_self]; omega)
      have hts : thereB (L.set 0 (s2, grpZ' 0 1 6)) ⟨6, 0, 1⟩ = true := by unfold thereB; rw [hps, List.getElem?_eq_getElem hs0]; show (agZ (rk (L.set 0 (s2, grpZ' 0 1 6))[0]) _ == 0) = true; rw [hks, agZ_self]; rfl
      have CD := drop_yes w.heap.size w.heap.size K lv3 _ ⟨6, 0, 1⟩ w3 HK3.out hts
      rw [hps] at CD
      have HDL : Hid (delL (L.set 0 (s2, grpZ' 0 1 6)) 0 = L.drop 1) := by
        show delL _ 0 = _
        unfold delL; rw [List.drop_set_of_lt (by omega)]; simp
      rw [HDL.out] at CD
      clear hs0 hks hps hts h0 HGK
      go_wp2_with fail
      refine CD.mono ?_
      rintro e w4 ⟨rfl, lv4, hk4, ht4, -⟩
      have HK4 : Hid (Keeps w4 w.heap.size w.heap.size K lv4 (L.drop 1)) := hk4
      have HB4 : Hid (Below w.heap.size w w4) := HB3.out.trans (ht4.below HB3.out.size (Nat.le_refl _) (fun k hk => (World.ownsRow.lt HK3.out.own k hk).1))
      clear hk4 ht4 CD HDL
      go_wp2_with fail
      refine (C9 _ (by omega) (by omega) (by omega)).mono ?_
      rintro e w5 ⟨s5, rfl, hh, hn, hb⟩
      have HK5 : Hid (Keeps w5 w.heap.size w.heap.size K lv4 (L.drop 1)) := HK4.out.below hb
      have HB5 : Hid (Below w.heap.size w w5) := below_more HB4.out hb HB4.out.size
      have hdl : (L.drop 1).length = K - 1 := by rw [List.length_drop, HL.out]
      have hpt : posZ (L.drop 1) ⟨6, 99, 1⟩ = (L.drop 1).length := posZ_is _ _ _ (Nat.le_refl _) (fun j hj _ => by have hj' := hj; rw [List.length_drop] at hj'; rw [List.getElem_drop, rg_key HG.out (1 + j) (by omega)]; exact ag_id (by omega)) (fun hc => absurd hc (by omega))
      have htt : thereB (L.drop 1) ⟨6, 99, 1⟩ = false := by unfold thereB; rw [hpt, List.getElem?_eq_none (Nat.le_refl _)]
      have CP := put_ins w.heap.size w.heap.size K lv4 (L.drop 1) s5 (grpZ' 99 1 5) w5 HK5.out hh (grp_mid 99 1 5) hn HB5.out.size (grp_sealed (by omega) (by omega) (by omega)) (by rw [grp_key]; exact htt) (by omega) (by omega) (insOk_any _ _ (posZ_le _ _))
      clear hb hh hn hpt htt
      have HDL : Hid ((L.drop 1).length = K - 1) := hdl
      clear hdl
      go_wp2_with fail
      refine CP.mono ?_
      rintro e w6 ⟨lv6, s6, rfl, hk6, ht6, hh6⟩
      have CL := len_any _ _ _ _ _ w6 hk6
      rw [insL_len, HDL.out, show ((K - 1 + 1 : Nat) : Int) = (K : Int) by omega] at CL
      have HB6 : Hid (Below w.heap.size w w6) := HB5.out.trans (ht6.below HB5.out.size (Nat.le_refl _) (fun k hk => (World.ownsRow.lt HK5.out.own k hk).1))
      have CA := awake_any w6
      clear hk6 ht6 hh6 CP
      go_wp2_with (first | (go_at_call 12; refine (num_any _ _).mono ?_; rintro e w' ⟨rfl, rfl⟩) | (go_at_call 22; refine CL.mono ?_; rintro e w' ⟨rfl, rfl⟩) | (go_at_call 9; refine CA.mono ?_; rintro e w7 ⟨rfl, hb⟩))
      go_ret
      exact ⟨rfl, below_more HB6.out hb HB6.out.size⟩
end Go.Proofs.Ytibbhfmpgpkdaaa
