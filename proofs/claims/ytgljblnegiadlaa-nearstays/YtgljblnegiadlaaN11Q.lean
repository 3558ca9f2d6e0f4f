/- A list of neighbors as all calls take it. -/
import Derived.Test.YtgljblnegiadlaaN11O
namespace Go.Proofs.Ytgljblnegiadlaa
open Go.RowKit Go.Sort Go.Lib Go.Shelf
set_option linter.unusedVariables false
set_option linter.unusedSectionVars false
variable [Inhabited NearZ]

set_option maxHeartbeats 4000000 in
theorem insertNil_any (a : Option Addr) (cap : Nat) (cb : Value) (W : World) :
    Calls Try.prog 35 #[.slice a 0 cap, .int .i64 0, .int .i64 0, cb] W fun e w' => e = .returned (.tuple #[]) ∧ w' = W := by
  go_enter Try.func35, Try.ntmps35
  go_wp2
  go_loopg [8] 0 (fun g1 vi wr => vi = .int .i64 1 ∧ wr = W)
  case atStart => exact ⟨by go_num, rfl⟩
  case round =>
    obtain ⟨rfl, rfl⟩ := hrel
    go_wp2
    go_end0
    exact ⟨rfl, rfl⟩
set_option maxHeartbeats 4000000 in
theorem sortNil_any (a : Option Addr) (cap : Nat) (cb : Value) (W : World) :
    Calls Try.prog 25 #[.slice a 0 cap, cb] W fun e w' => e = .returned (.tuple #[]) ∧ w' = W := by
  have CT : Calls Try.prog 32 #[.slice a 0 cap, .int .i64 0, cb] W fun e w' => e = .returned (.tuple #[]) ∧ w' = W := by
    have CI := insertNil_any a cap cb W
    go_enter Try.func32, Try.ntmps32
    go_wp2
    go_loopg [7, 8] 0 (fun gk va vb wr => va = .int .i64 0 ∧ vb = .int .i64 20 ∧ wr = W)
    case atStart => exact ⟨rfl, by go_num, rfl⟩
    case round =>
      obtain ⟨rfl, rfl, rfl⟩ := hrel
      go_wp2_with fail
      refine CI.mono ?_
      rintro e w2 ⟨rfl, rfl⟩
      go_wp2_with fail
      go_loopg [6, 7, 8, 9] 0 (fun gk2 v6 v7 v8 v9 wr2 => v6 = .int .i64 20 ∧ wr2 = w2)
      case atStart => exact ⟨rfl, rfl⟩
      case round =>
        obtain ⟨rfl, rfl⟩ := hrel
        go_wp2
        go_end0
        exact ⟨rfl, rfl⟩
  go_enter Try.func25, Try.ntmps25
  go_wp2_with fail
  refine CT.mono ?_
  rintro e w2 ⟨rfl, rfl⟩
  go_wp2
  go_end0
  exact ⟨rfl, rfl⟩
/-- What inOrder leaves. -/
def OrderEnd (w : World) (L : List NearZ) (e : Ending) (w' : World) : Prop := ∃ v, e = .returned v ∧ OwnN w' w.heap.size v (orderZ L) ∧ Below w.heap.size w w'
theorem OwnN.prefix {w : World} {base g c n k : Nat} {A B : List NearZ} (h : OwnN w base (.slice (some ⟨g, 0, none⟩) n c) (A ++ B)) (hk : A.length = k) : OwnN w base (.slice (some ⟨g, 0, none⟩) k c) A := by
  rcases h.2 with ⟨h', _⟩ | ⟨g', cap', cur, h', hbg, hg, hnc, hcm, hcs, htk⟩
  · cases h'
  · cases h'
    subst hk
    rw [List.length_append] at hnc
    refine ⟨nears_len A, .inr ⟨g, c, cur, rfl, hbg, hg, by omega, hcm, hcs, ?_⟩⟩
    have := congrArg (List.take (A.length * 7)) htk
    rw [List.take_take, List.length_append, Nat.add_mul, Nat.min_eq_left (by omega), nears_app, List.take_left' (nears_len A)] at this
    exact this
theorem lasts_step (M : List NearZ) (i : Nat) (hi : i < M.length) : lastsZ (M.drop i) = if h : i + 1 < M.length then (if M[i].id = M[i + 1].id then lastsZ (M.drop (i + 1)) else M[i] :: lastsZ (M.drop (i + 1))) else [M[i]] := by
  rw [List.drop_eq_getElem_cons hi]
  split
  · rename_i h
    rw [List.drop_eq_getElem_cons h]
    rfl
  · rename_i h
    rw [List.drop_eq_nil_of_le (by omega)]
    rfl
set_option maxHeartbeats 4000000 in
set_option maxRecDepth 20000 in
theorem inOrder_any (a : Option Addr) (n cap : Nat) (L : List NearZ) (w : World) (hn : n = L.length) (hL : Lies w a (cellsOf nearC L)) (hnil : a = none → cap = 0) (hl : L.length ≤ 1000000) :
    Calls Try.prog 19 #[.slice a n cap] w (OrderEnd w L) := by
  have HLI : Hid (Lies w a (cellsOf nearC L)) := hL
  have HNIL : Hid (a = none → cap = 0) := hnil
  subst hn
  unfold OrderEnd
  obtain ⟨O, hO⟩ : ∃ O, orderZ L = O := ⟨_, rfl⟩
  have HO : Hid (orderZ L = O) := hO
  rw [hO]
  clear hL hnil hO
  go_enter Try.func19, Try.ntmps19
  go_wp2_with (at_builtin; go_must (refine wp_dup_nears w rfl _ _ rfl rfl a _ _ L rfl rfl HLI.out HNIL.out hl ?_))
  intro v1 w1 ho1 hb1
  by_cases hL0 : L = []
  · subst hL0
    obtain ⟨a1, c1, e1, -, hn1, -, -⟩ := OwnN.more ho1
    subst e1
    have HO1 : Hid (OwnN w1 w.heap.size (.slice a1 0 c1) []) := ho1
    have HB1 : Hid (Below w.heap.size w w1) := hb1
    have HOE : Hid (O = []) := HO.out.symm
    clear ho1 hb1
    have CT := sortNil_any a1 c1 (.func (.func 26) #[] #[]) w1
    simp only [List.length_nil]
    go_wp2_with fail
    refine CT.mono ?_
    rintro e w2 ⟨rfl, rfl⟩
    clear CT
    go_wp2_with fail
    go_loopg [4, 5, 6, 15] 0 (fun gk v4 v5 v6 v15 wr => v15 = .int .i64 0 ∧ v4 = .slice a1 0 c1 ∧ wr = w2)
    case atStart => exact ⟨rfl, rfl, rfl⟩
    case round =>
      obtain ⟨rfl, rfl, rfl⟩ := hrel
      go_wp2
      go_ret
      exact ⟨_, rfl, by rw [HOE.out]; exact HO1.out, HB1.out⟩
  · obtain ⟨g, c1, e1, hg1, hg2, hc1⟩ := OwnN.place ho1 hL0
    subst e1
    have HO1 : Hid (OwnN w1 w.heap.size (.slice (some ⟨g, 0, none⟩) L.length c1) L) := ho1
    have HB1 : Hid (Below w.heap.size w w1) := hb1
    have R := HO1.out.row
    have CT := sort_any w1 g c1 L.toArray R (by simpa using hl) L (by simp) w1 (SWK.start R.hH)
    have HGB : Hid (w.heap.size ≤ g) := hg1
    simp only [List.size_toArray] at CT
    clear ho1 hb1 R hg1 hg2
    go_wp2_with fail
    refine CT.mono ?_
    rintro e w2 ⟨rfl, M, hM, hw2⟩
    have hlM := hM.2.2
    obtain ⟨ho2, hb2⟩ := HO1.out.sorted hlM hw2
    have HO2 : Hid (OwnN w2 w.heap.size (.slice (some ⟨g, 0, none⟩) L.length c1) M) := ho2
    have HB2 : Hid (Below w.heap.size w w2) := HB1.out.trans hb2
    have HM : Hid (lastsZ M = O) := by show _ = _; rw [lasts_order hM]; exact HO.out
    obtain ⟨n, hn⟩ : ∃ n, L.length = n := ⟨_, rfl⟩
    have HLM : Hid (M.length = n) := by show _ = _; omega
    rw [hn] at HO2 hc1 hl ⊢
    have hn0 : 0 < n := by rw [← hn]; exact List.length_pos_iff.2 hL0
    clear CT ho2 hb2 hw2 hM hlM HO1 HB1 HO HLI HNIL hn hL0
    go_wp2_with fail
    go_loopg [4, 5, 6, 15] n (fun gk v4 v5 v6 v15 wr => ∃ (i k : Nat) (Z A : List NearZ), v15 = .int .i64 i ∧ v4 = .slice (some ⟨g, 0, none⟩) k c1 ∧ i ≤ n ∧ n - i ≤ gk ∧ k ≤ i ∧ Hid (A.length = k) ∧ Hid (Z.take k = A) ∧ Hid (Z.drop i = M.drop i) ∧ Hid (Z.length = n) ∧ Hid (A ++ lastsZ (M.drop i) = O) ∧ Hid (OwnN wr w.heap.size (.slice (some ⟨g, 0, none⟩) n c1) Z) ∧ Hid (Below w.heap.size w wr))
    case atStart => exact ⟨0, 0, M, [], rfl, rfl, by omega, by omega, Nat.le_refl _, rfl, by show _ = _; simp, rfl, HLM.out, by show _ = _; simpa using HM.out, HO2.out, HB2.out⟩
    case round =>
      clear HO2 HB2
      obtain ⟨i, k, Z, A, rfl, rfl, hin, hgk, hki, HA, HZA, HZD, HZL, HAO, HO, HB⟩ := hrel
      by_cases hlt : i < n
      · have hltz : (i : Int) < (n : Int) := by omega
        have hiM : i < M.length := by rw [HLM.out]; exact hlt
        have hiZ : i < Z.length := by rw [HZL.out]; exact hlt
        have hZi : Z[i] = M[i] := by
          have := HZD.out
          rw [List.drop_eq_getElem_cons hiZ, List.drop_eq_getElem_cons hiM] at this
          exact (List.cons.inj this).1
        have hZD1 : Z.drop (i + 1) = M.drop (i + 1) := by
          have := HZD.out
          rw [List.drop_eq_getElem_cons hiZ, List.drop_eq_getElem_cons hiM] at this
          exact (List.cons.inj this).2
        have hstep := lasts_step M i hiM
        obtain ⟨x, hx⟩ : ∃ x, M[i] = x := ⟨_, rfl⟩
        rw [hx] at hstep hZi
        obtain ⟨c0, c1', c2, c3, c4, c5, c6⟩ := HO.out.cells i hiZ
        rw [hZi] at c0 c1' c2 c3 c4 c5 c6
        have HX : Hid (Var (wr.alloc (.cells (nearA x) 42)) wr.heap.size (nearC x)) := var_new wr (nearC x) _
        have HOV : Hid (OwnN (wr.alloc (.cells (nearA x) 42)) w.heap.size (.slice (some ⟨g, 0, none⟩) n c1) Z) := HO.out.below (below_new' _ _)
        have HBV : Hid (Below w.heap.size w (wr.alloc (.cells (nearA x) 42))) := HB.out.alloc HB.out.size _
        have HST : Hid (lastsZ (M.drop i) = if h : i + 1 < M.length then (if x.id = M[i + 1].id then lastsZ (M.drop (i + 1)) else x :: lastsZ (M.drop (i + 1))) else [x]) := hstep
        have HZ1 : Hid (Z.drop (i + 1) = M.drop (i + 1)) := hZD1
        -- what a round leaves that skips, or keeps
        have HSKIP : Hid (lastsZ (M.drop i) = lastsZ (M.drop (i + 1)) → A ++ lastsZ (M.drop (i + 1)) = O) := fun h => by rw [← h]; exact HAO.out
        have HKEEP : Hid (lastsZ (M.drop i) = x :: lastsZ (M.drop (i + 1)) → (A ++ [x]) ++ lastsZ (M.drop (i + 1)) = O) := fun h => by
          rw [List.append_assoc, List.singleton_append, ← h]; exact HAO.out
        have HSET : Hid ((Z.set k x).take (k + 1) = A ++ [x] ∧ (Z.set k x).drop (i + 1) = M.drop (i + 1) ∧ (Z.set k x).length = n) := by
          refine ⟨?_, ?_, by rw [List.length_set]; exact HZL.out⟩
          · rw [← HZA.out, List.take_set, List.take_add_one, List.getElem?_eq_getElem (show k < Z.length by omega)]
            simp only [Option.toList_some]
            rw [List.set_append_right _ _ (by rw [List.length_take]; omega), List.length_take, Nat.min_eq_left (by omega), Nat.sub_self]
            rfl
          · rw [List.drop_set_of_lt (by omega)]; exact hZD1
        have hkz : k < Z.length := by omega
        clear hstep hZi hx hZD1 HAO HO HB
        go_upto_region 7 with fail
        obtain ⟨nb, hnb⟩ : ∃ nb, wr.heap.size = nb := ⟨_, rfl⟩
        rw [hnb] at HX ⊢
        generalize wr.alloc (.cells (nearA x) 42) = V at *
        clear hnb c0 c1' c2 c3 c4 c5 c6
        have d0 := HX.out.cell 0 rfl
        have d1 := HX.out.cell 1 rfl
        have d2 := HX.out.cell 2 rfl
        have d3 := HX.out.cell 3 rfl
        have d4 := HX.out.cell 4 rfl
        have d5 := HX.out.cell 5 rfl
        have d6 := HX.out.cell 6 rfl
        have hwi : IntKind.i64.wrap ((i : Int) + 1) = (i : Int) + 1 := by rw [IntKind.wrap_i64]; omega
        have ei : ((i : Int) + 1).toNat = i + 1 := by omega
        have pi : (0 : Int) ≤ (i : Int) + 1 := by omega
        -- keeps
        have HKR : Aside (∀ w', OwnN w' w.heap.size (.slice (some ⟨g, 0, none⟩) n c1) (Z.set k x) → Below w.heap.size w w' → lastsZ (M.drop i) = x :: lastsZ (M.drop (i + 1)) → ∃ (i' k' : Nat) (Z' A' : List NearZ), Value.int .i64 ((i : Int) + 1) = .int .i64 i' ∧ Value.slice (some ⟨g, 0, none⟩) (k + 1) c1 = .slice (some ⟨g, 0, none⟩) k' c1 ∧ i' ≤ n ∧ n - i' ≤ n - (i + 1) ∧ k' ≤ i' ∧ Hid (A'.length = k') ∧ Hid (Z'.take k' = A') ∧ Hid (Z'.drop i' = M.drop i') ∧ Hid (Z'.length = n) ∧ Hid (A' ++ lastsZ (M.drop i') = O) ∧ Hid (OwnN w' w.heap.size (.slice (some ⟨g, 0, none⟩) n c1) Z') ∧ Hid (Below w.heap.size w w')) := fun w' h1 h2 h3 =>
          ⟨i + 1, k + 1, Z.set k x, A ++ [x], by go_num, rfl, by omega, by omega, by omega, by show _ = _; rw [List.length_append, HA.out]; rfl, HSET.out.1, HSET.out.2.1, HSET.out.2.2, HKEEP.out h3, h1, h2⟩
        by_cases hlast : i + 1 = n
        · have hq : ((i : Int) + 1 == (n : Int)) = true := by simp; omega
          have hcons : lastsZ (M.drop i) = x :: lastsZ (M.drop (i + 1)) := by
            rw [HST.out, dif_neg (by rw [HLM.out]; omega), List.drop_eq_nil_of_le (by rw [HLM.out]; omega)]
            rfl
          have HC : Hid _ := hcons
          clear hcons HST HSKIP
          go_quiet (fail)
          have HOQ : Hid (OwnN (V.drewN nq) w.heap.size (.slice (some ⟨g, 0, none⟩) n c1) Z) := HOV.out.below (below_dr (Below.refl _ _) nq)
          have HBQ : Hid (Below w.heap.size w (V.drewN nq)) := below_dr HBV.out nq
          have q0 := (HX.out.below (below_dr (Below.refl V.heap.size V) nq) HX.out.lt)
          have HXQ : Hid (Var (V.drewN nq) nb (nearC x)) := q0
          clear d0 d1 d2 d3 d4 d5 d6 q0 HX HOV HBV
          generalize V.drewN nq = V2 at *
          have d0 := HXQ.out.cell 0 rfl
          have d1 := HXQ.out.cell 1 rfl
          have d2 := HXQ.out.cell 2 rfl
          have d3 := HXQ.out.cell 3 rfl
          have d4 := HXQ.out.cell 4 rfl
          have d5 := HXQ.out.cell 5 rfl
          have d6 := HXQ.out.cell 6 rfl
          go_wp2_with (at_builtin; go_must (refine wp_append_over V2 _ rfl rfl _ _ rfl w.heap.size g n c1 k Z rfl HOQ.out hkz x rfl HBQ.out.size ?_))
          intro w3 ho3 hb3
          have HE3 : Aside _ := HKR.out w3 ho3 (below_more HBQ.out hb3 (Nat.le_refl _)) HC.out
          clear ho3 hb3 HKR HC HOQ HBQ HXQ d0 d1 d2 d3 d4 d5 d6 HSET HKEEP
          go_wp2
          go_roundg (n - (i + 1))
          case measure => omega
          case rel =>
            obtain ⟨i', k', Z', A', r1, r2, r3⟩ := HE3.out
            exact ⟨i', k', Z', A', r1, r2, r3⟩
        · have hlast2 : i + 1 < n := by omega
          have hq : ((i : Int) + 1 == (n : Int)) = false := by simp; omega
          have hnq : ¬ (i : Int) + 1 = (n : Int) := by omega
          have bz : (i : Int) + 1 < (n : Int) := by omega
          have hM1 : i + 1 < M.length := by rw [HLM.out]; exact hlast2
          have hZ1 : i + 1 < Z.length := by rw [HZL.out]; exact hlast2
          obtain ⟨y, hy⟩ : ∃ y, M[i + 1] = y := ⟨_, rfl⟩
          have hZy : Z[i + 1] = y := by
            have := HZ1.out
            rw [List.drop_eq_getElem_cons hZ1, List.drop_eq_getElem_cons hM1] at this
            rw [← hy]; exact (List.cons.inj this).1
          have hst := HST.out
          rw [dif_pos hM1, hy] at hst
          have HS2 : Hid (lastsZ (M.drop i) = if x.id = y.id then lastsZ (M.drop (i + 1)) else x :: lastsZ (M.drop (i + 1))) := hst
          obtain ⟨k0, -, -, -, -, -, -⟩ := HOV.out.cells (i + 1) hZ1
          rw [hZy] at k0
          clear hy hst HST hZy hZ1 hM1
          by_cases hxy : y.id = x.id
          · have HC : Hid (lastsZ (M.drop i) = lastsZ (M.drop (i + 1))) := by show _ = _; rw [HS2.out, if_pos hxy.symm]
            have hne : (y.id != x.id) = false := by simp [hxy]
            clear HS2
            generalize y.id = yi at *
            go_quiet (fail)
            have HE3 : Hid (A ++ lastsZ (M.drop (i + 1)) = O) := HSKIP.out HC.out
            have HOQ : Hid (OwnN (V.drewN nq) w.heap.size (.slice (some ⟨g, 0, none⟩) n c1) Z) := HOV.out.below (below_dr (Below.refl _ _) nq)
            have HBQ : Hid (Below w.heap.size w (V.drewN nq)) := below_dr HBV.out nq
            clear d0 d1 d2 d3 d4 d5 d6 k0 HX HOV HBV HKR HC HSET HKEEP HSKIP
            go_wp2
            go_roundg (n - (i + 1))
            case measure => omega
            case rel => exact ⟨i + 1, k, Z, A, by go_num, rfl, by omega, Nat.le_refl _, by omega, HA, HZA, HZ1, HZL, HE3, HOQ, HBQ⟩
          · have HC : Hid (lastsZ (M.drop i) = x :: lastsZ (M.drop (i + 1))) := by show _ = _; rw [HS2.out, if_neg (fun h => hxy h.symm)]
            have hne : (y.id != x.id) = true := by simp [hxy]
            clear HS2 HSKIP
            go_quiet (fail)
            have HOQ : Hid (OwnN (V.drewN nq) w.heap.size (.slice (some ⟨g, 0, none⟩) n c1) Z) := HOV.out.below (below_dr (Below.refl _ _) nq)
            have HBQ : Hid (Below w.heap.size w (V.drewN nq)) := below_dr HBV.out nq
            have q0 := (HX.out.below (below_dr (Below.refl V.heap.size V) nq) HX.out.lt)
            have HXQ : Hid (Var (V.drewN nq) nb (nearC x)) := q0
            clear d0 d1 d2 d3 d4 d5 d6 q0 HX HOV HBV
            generalize V.drewN nq = V2 at *
            have d0 := HXQ.out.cell 0 rfl
            have d1 := HXQ.out.cell 1 rfl
            have d2 := HXQ.out.cell 2 rfl
            have d3 := HXQ.out.cell 3 rfl
            have d4 := HXQ.out.cell 4 rfl
            have d5 := HXQ.out.cell 5 rfl
            have d6 := HXQ.out.cell 6 rfl
            go_wp2_with (at_builtin; go_must (refine wp_append_over V2 _ rfl rfl _ _ rfl w.heap.size g n c1 k Z rfl HOQ.out hkz x rfl HBQ.out.size ?_))
            intro w3 ho3 hb3
            have HE3 : Aside _ := HKR.out w3 ho3 (below_more HBQ.out hb3 (Nat.le_refl _)) HC.out
            clear ho3 hb3 HKR HC HOQ HBQ HXQ d0 d1 d2 d3 d4 d5 d6 HSET HKEEP
            go_wp2
            go_roundg (n - (i + 1))
            case measure => omega
            case rel =>
              obtain ⟨i', k', Z', A', r1, r2, r3⟩ := HE3.out
              exact ⟨i', k', Z', A', r1, r2, r3⟩
      · have hltz : ¬ (i : Int) < (n : Int) := by omega
        have HE : Hid (OwnN wr w.heap.size (.slice (some ⟨g, 0, none⟩) k c1) O) := by
          have h1 := HAO.out
          rw [List.drop_eq_nil_of_le (by rw [HLM.out]; omega)] at h1
          simp only [lastsZ, List.append_nil] at h1
          have h2 := HO.out
          rw [← List.take_append_drop k Z, HZA.out, h1] at h2
          exact h2.prefix (by rw [← h1]; exact HA.out)
        clear HO HA HZA HZD HZL HAO
        go_wp2
        go_ret
        exact ⟨_, rfl, HE.out, HB.out⟩
end Go.Proofs.Ytgljblnegiadlaa
