/- What is killed is dead at once, and but once; its sum is right still; nothing else is touched: the walk. -/
import Derived.Test.YtbogphhbjmapgaaS9L0
import Derived.Test.YtbogphhbjmapgaaS5DS
namespace Go.Proofs.Ytbogphhbjmapgaa
open Go.RowKit
set_option linter.unusedVariables false

def rowsZ (k : Nat) : List LsaZ := (List.range k).map fun (j : Nat) => gageZ (j : Int) 1 (j : Int)
theorem rowsZ_len (k : Nat) : (rowsZ k).length = k := by simp [rowsZ]
theorem rowsZ_at (k j : Nat) (h : j < (rowsZ k).length) : (rowsZ k)[j] = gageZ (j : Int) 1 (j : Int) := by simp [rowsZ]
theorem rowsZ_succ (k : Nat) : rowsZ (k + 1) = rowsZ k ++ [gageZ (k : Int) 1 (k : Int)] := by simp [rowsZ, List.range_succ]
theorem map_at {M : List Row} {l : List LsaZ} (h : M.map (fun r => r.2) = l) (j : Nat) (hj : j < M.length) : ∃ hl : j < l.length, M[j].2 = l[j] := by
  subst h
  exact ⟨by simpa using hj, by simp⟩
theorem rows_key {M : List Row} {k : Nat} (h : M.map (fun r => r.2) = rowsZ k) (j : Nat) (hj : j < M.length) : rk M[j] = ⟨6, (j : Int), 1⟩ := by
  obtain ⟨hl, e⟩ := map_at h j hj
  unfold rk
  rw [e, rowsZ_at, gage_key]
theorem rows_end {M : List Row} {k : Nat} (h : M.map (fun r => r.2) = rowsZ k) : M.length = k := by
  have := congrArg List.length h
  rwa [List.length_map, rowsZ_len] at this
theorem rows_pos {M : List Row} {k : Nat} (h : M.map (fun r => r.2) = rowsZ k) : posZ M ⟨6, (k : Int), 1⟩ = M.length :=
  posZ_is M _ _ (Nat.le_refl _) (fun i hi _ => by
    rw [rows_key h i hi, agZ_neg]
    have := rows_end h
    right; exact ⟨rfl, .inl (by show (i : Int) < (k : Int); omega)⟩) (fun hlt => absurd hlt (by omega))
theorem rows_not {M : List Row} {k : Nat} (h : M.map (fun r => r.2) = rowsZ k) : thereB M ⟨6, (k : Int), 1⟩ = false := by
  unfold thereB
  rw [rows_pos h, List.getElem?_eq_none (Nat.le_refl _)]
theorem rows_there {M : List Row} {k x : Nat} (h : M.map (fun r => r.2) = rowsZ k) (hr : Rising M) (hx : x < k) : posZ M ⟨6, (x : Int), 1⟩ = x ∧ thereB M ⟨6, (x : Int), 1⟩ = true := by
  have hl := rows_end h
  have hk := rows_key h x (by omega)
  have hp := posZ_self hr x (by omega)
  rw [hk] at hp
  refine ⟨hp, ?_⟩
  unfold thereB
  rw [hp, List.getElem?_eq_getElem (by omega)]
  simp [hk, agZ_self]
/-- The Keys of those of which just one is so. -/
theorem keys_lone {p : HeadZ → Bool} (l : List HeadZ) : ∀ (x : Nat) (hx : x < l.length), (∀ j (h : j < l.length), p l[j] = decide (j = x)) → keysOf p l = [keyZ l[x]] := by
  induction l with
  | nil => intro x hx; simp at hx
  | cons a l ih =>
    intro x hx h
    cases x with
    | zero =>
      have h0 := h 0 (by simp)
      simp only [List.getElem_cons_zero, decide_true] at h0
      have hr : l.filter p = [] := by
        rw [List.filter_eq_nil_iff]
        intro b hb
        obtain ⟨j, hj, rfl⟩ := List.getElem_of_mem hb
        have := h (j + 1) (by simp; omega)
        simp only [List.getElem_cons_succ] at this
        rw [this]; simp
      unfold keysOf
      rw [List.filter_cons_of_pos h0, hr]; rfl
    | succ x =>
      have h0 := h 0 (by simp)
      simp only [List.getElem_cons_zero] at h0
      have h1 := ih x (by simpa using hx) (fun j hj => by
        have := h (j + 1) (by simp; omega)
        simp only [List.getElem_cons_succ] at this
        rw [this]; simp)
      unfold keysOf at h1 ⊢
      rw [List.filter_cons_of_neg (by rw [h0]; simp), List.getElem_cons_succ]; exact h1
theorem own_cap9 {w : World} {N e size n g c : Nat} {xs : List Value} (h : w.ownsRow N e size (.slice (some ⟨g, 0, none⟩) n c) n xs) : n ≤ c := by
  rcases h.2 with ⟨h1, _⟩ | ⟨g, cap, cur, h1, _, _, h4, _⟩
  · cases h1
  · simp only [Value.slice.injEq] at h1
    obtain ⟨-, -, rfl⟩ := h1; exact h4
/-- So many have been put. -/
def PutSo (w0 w : World) (N b : Nat) (i : Nat) : Prop := ∃ lv M, Keeps w N b 30 lv M ∧ M.map (fun r => r.2) = rowsZ i ∧ Below N w0 w
theorem PutSo.below {w0 w w' : World} {N b i : Nat} (h : PutSo w0 w N b i) (hb : Below w.heap.size w w') (hN : N ≤ w.heap.size) : PutSo w0 w' N b i :=
  let ⟨lv, M, h1, h2, h3⟩ := h; ⟨lv, M, h1.below hb, h2, below_more h3 hb hN⟩
theorem PutSo.more {w0 w : World} {N b i : Nat} (h : PutSo w0 w N b i) (hi : i < 20) (s : Seats) (hN : N ≤ w.heap.size) (hH : Held w s (gageZ (i : Int) 1 (i : Int))) (hn : Nils s) :
    Calls Try.prog 12 #[.pointer (some ⟨b, 0, none⟩), .agg (lsaA s (gageZ (i : Int) 1 (i : Int)))] w fun e w' => e = .returned (.int .i64 0) ∧ PutSo w0 w' N b (i + 1) ∧ w.heap.size ≤ w'.heap.size := by
  obtain ⟨lv, M, h1, h2, h3⟩ := h
  have hl := rows_end h2
  have hk : keyZ (gageZ (i : Int) 1 (i : Int)).head = ⟨6, (i : Int), 1⟩ := gage_key _ _ _
  refine (put_ins N b 30 lv M s (gageZ (i : Int) 1 (i : Int)) w h1 hH (gage_mid _ _ _) hn hN (gage_sealed (by omega) (by omega) (by omega)) (by rw [hk]; exact rows_not h2) (by omega) (by omega) (by rw [hk, rows_pos h2]; exact insOk_end _ _ rfl)).mono ?_
  rintro e w' ⟨lv', s', rfl, hK, ht, hh⟩
  refine ⟨rfl, ⟨lv', _, hK, ?_, h1.below_turned h3 hN ht⟩, ht.size⟩
  rw [hk, rows_pos h2]
  unfold insL
  rw [List.take_length, List.drop_length, List.map_append, h2, rowsZ_succ]; rfl
theorem killed_keys {M : List Row} {k x : Nat} {s' : Seats} (h : M.map (fun r => r.2) = rowsZ k) (hx : x < k) (hk : k ≤ 20) : keysOf deadH ((M.set x (s', ageL (gageZ (x : Int) 1 (x : Int)) 3600)).map fun r => r.2.head) = [⟨6, (x : Int), 1⟩] := by
  have hl := rows_end h
  rw [keys_lone (p := deadH) _ x (by simp; omega)]
  · simp only [List.getElem_map, List.getElem_set_self]
    rw [ageL_key, gage_key]
  · intro j hj
    simp only [List.getElem_map]
    have hj' : j < M.length := by simpa using hj
    by_cases e : j = x
    · subst e
      rw [List.getElem_set_self]
      simp [deadH, deadB, ageL_age]
    · rw [List.getElem_set_ne (by omega)]
      obtain ⟨hl2, e2⟩ := map_at h j hj'
      rw [e2, rowsZ_at]
      unfold deadH deadB
      rw [gage_age]
      simp [e]; omega
set_option maxHeartbeats 6400000 in
set_option maxRecDepth 20000 in
theorem ageKills_walk (n at' : Int) (w : World) (hn : 0 ≤ n ∧ n ≤ 255) (ha : 0 ≤ at' ∧ at' ≤ 255) : Calls Try.prog 5 #[.int .u8 n, .int .u8 at'] w fun e w' => e = .returned (.bool true) ∧ Below w.heap.size w w' := by
  obtain ⟨hn1, hn2⟩ := hn
  obtain ⟨ha1, ha2⟩ := ha
  obtain ⟨k, hk⟩ : ∃ k : Nat, 1 + n % 20 = (k : Int) := ⟨(1 + n % 20).toNat, by omega⟩
  have hkl : 1 ≤ k := by omega
  have hkh : k ≤ 20 := by omega
  have hkI : (0 : Int) < (k : Int) := by omega
  obtain ⟨x, hx⟩ : ∃ x : Nat, at'.tmod (k : Int) = (x : Int) := ⟨(at'.tmod (k : Int)).toNat, by have := Int.tmod_nonneg (k : Int) ha1; omega⟩
  have hxk : x < k := by
    have h2 := Int.tmod_lt_of_pos at' hkI
    omega
  have hx' : at' % (k : Int) = (x : Int) := by rw [← hx, Int.tmod_eq_emod_of_nonneg ha1]
  go_enter Try.func5, Try.ntmps5
  go_upto_region 2 with fail
  clear hk
  go_wp2_with fail
  refine (new_any 30 w (by omega) (by omega)).mono ?_
  rintro e w1 ⟨rfl, rfl⟩
  have HP : Hid (PutSo w (w.alloc (.cells #[.int .i64 30, .slice none 0 0] 68)) w.heap.size w.heap.size 0 ∧ w.heap.size ≤ (w.alloc (.cells #[.int .i64 30, .slice none 0 0] 68)).heap.size) := ⟨⟨_, [], new_keeps w 30, rfl, below_new' _ _⟩, (below_new' w _).size⟩
  generalize w.alloc (.cells #[.int .i64 30, .slice none 0 0] 68) = W at *
  go_wp2_with fail
  refine (num_any _ _).mono ?_
  rintro e w1 ⟨rfl, rfl⟩
  go_wp2_with fail
  go_loopw [8] (fun t wr => ∃ i : Nat, i ≤ k ∧ t = .int .i64 (i : Int) ∧ Hid (PutSo w wr w.heap.size w.heap.size i ∧ w.heap.size ≤ wr.heap.size)) (fun t _ => k - (intOf t).toNat)
  case atStart => exact ⟨0, by omega, rfl, HP.out⟩
  case round =>
    clear HP
    obtain ⟨i, hi, rfl, HP⟩ := hrel
    by_cases hlt : i < k
    · have hiI : (i : Int) < (k : Int) := by omega
      go_wp2_with fail
      refine (gage_any (i : Int) 1 (i : Int) _ (by omega) (by omega) (by omega)).mono ?_
      rintro e w2 ⟨s1, rfl, hh, hn', hb⟩
      have HP2 : Hid (PutSo w w2 w.heap.size w.heap.size i ∧ w.heap.size ≤ w2.heap.size) := ⟨HP.out.1.below hb HP.out.2, Nat.le_trans HP.out.2 hb.size⟩
      have CP := HP2.out.1.more (by omega) s1 HP2.out.2 hh hn'
      clear hb hh hn' HP
      go_wp2_with fail
      refine CP.mono ?_
      rintro e w3 ⟨rfl, hp, hs⟩
      have HP3 : Hid (PutSo w w3 w.heap.size w.heap.size (i + 1) ∧ w.heap.size ≤ w3.heap.size) := ⟨hp, Nat.le_trans HP2.out.2 hs⟩
      clear hp hs CP HP2
      go_wp2
      go_roundw
      case rel => exact ⟨i + 1, by omega, by go_num, HP3⟩
      case measure => simp [intOf]; omega
    · obtain rfl : i = k := by omega
      have hnl : ¬ ((i : Int) < (i : Int)) := by omega
      obtain ⟨lv, M, hK, hM, hB⟩ := HP.out.1
      have HK : Hid (Keeps wr w.heap.size w.heap.size 30 lv M) := hK
      have HM : Hid (M.map (fun r => r.2) = rowsZ i ∧ M.length = i) := ⟨hM, rows_end hM⟩
      have HB : Hid (Below w.heap.size w wr) := hB
      clear hK hM hB HP
      have HV : Hid (Var (wr.alloc (.cells #[.int .i64 6, .int .i64 (x : Int), .int .i64 1] 25)) wr.heap.size [.int .i64 6, .int .i64 (x : Int), .int .i64 1]) := var_new wr [.int .i64 6, .int .i64 (x : Int), .int .i64 1] _
      have HK2 : Hid (Keeps (wr.alloc (.cells #[.int .i64 6, .int .i64 (x : Int), .int .i64 1] 25)) w.heap.size w.heap.size 30 lv M) := HK.out.below (below_new' _ _)
      have HB2 : Hid (Below w.heap.size w (wr.alloc (.cells #[.int .i64 6, .int .i64 (x : Int), .int .i64 1] 25))) := HB.out.alloc HB.out.size _
      go_upto_region 11 with fail
      clear hnl
      have HKB : Hid (w.heap.size < wr.heap.size ∧ ∀ k, lv.ownBlock = some k → k < wr.heap.size) := ⟨HK.out.obj.lt, HK.out.own_lt⟩
      obtain ⟨kb, hkb⟩ : ∃ kb, wr.heap.size = kb := ⟨_, rfl⟩
      rw [hkb] at HV HKB ⊢
      generalize wr.alloc (.cells #[.int .i64 6, .int .i64 (x : Int), .int .i64 1] 25) = V at *
      clear hkb HK HB
      have hth := rows_there HM.out.1 HK2.out.rising hxk
      have HMX : Hid (M[x]? = some (M[x]'(by rw [HM.out.2]; exact hxk))) := List.getElem?_eq_getElem _
      have HMZ : Hid ((M[x]'(by rw [HM.out.2]; exact hxk)).2 = gageZ (x : Int) 1 (x : Int)) := by
        obtain ⟨hl, e⟩ := map_at HM.out.1 x (by rw [HM.out.2]; exact hxk)
        show _ = _
        rw [e, rowsZ_at]
      have CK1 : Calls _ _ _ _ _ := (kill_there w.heap.size w.heap.size 30 lv M ⟨6, (x : Int), 1⟩ V.drew (HK2.out.below (Below.refl _ _).drew) hth.2 _ (by rw [hth.1]; exact HMX.out)).mono (R' := fun e w' => ∃ s', e = .returned (.bool true) ∧ Hid (Keeps w' w.heap.size w.heap.size 30 lv (M.set x (s', ageL (gageZ (x : Int) 1 (x : Int)) 3600)) ∧ Turned w.heap.size lv.ownBlock V w') ∧ Var w' kb [.int .i64 6, .int .i64 (x : Int), .int .i64 1]) fun e w' h => by
        obtain ⟨s', h1, h2, h3, -⟩ := h.2 (by rw [HMZ.out, gage_age]; omega)
        rw [HMZ.out, hth.1] at h2
        have hT : Turned w.heap.size lv.ownBlock V w' := (Turned.of _ _ (Below.refl V.heap.size V).drew).trans h3
        exact ⟨s', h1, ⟨h2, hT⟩, HV.out.turned hT (by have := HKB.out.1; omega) (fun k hk => by have := HKB.out.2 k hk; omega)⟩
      have CK2 : Hid (∀ (s' : Seats) (v1 : World), Keeps v1 w.heap.size w.heap.size 30 lv (M.set x (s', ageL (gageZ (x : Int) 1 (x : Int)) 3600)) → Calls Try.prog 19 #[.pointer (some ⟨w.heap.size, 0, none⟩), .agg #[.int .i64 6, .int .i64 (x : Int), .int .i64 1]] v1 fun e w' => e = .returned (.bool false) ∧ Hid (Below v1.heap.size v1 w')) := by
        intro s' v1 hv
        have hxM : x < (M.set x (s', ageL (gageZ (x : Int) 1 (x : Int)) 3600)).length := by rw [List.length_set, HM.out.2]; exact hxk
        have hk : rk ((M.set x (s', ageL (gageZ (x : Int) 1 (x : Int)) 3600))[x]) = ⟨6, (x : Int), 1⟩ := by
          rw [List.getElem_set_self]
          show keyZ _ = _
          rw [ageL_key, gage_key]
        have hp := posZ_self hv.rising x hxM
        rw [hk] at hp
        have ht : thereB (M.set x (s', ageL (gageZ (x : Int) 1 (x : Int)) 3600)) ⟨6, (x : Int), 1⟩ = true := by
          unfold thereB
          rw [hp, List.getElem?_eq_getElem hxM]
          simp only [hk, agZ_self]; rfl
        refine (kill_there _ _ _ _ _ ⟨6, (x : Int), 1⟩ v1 hv ht _ (by rw [hp]; exact List.getElem?_eq_getElem hxM)).mono fun e w' h => ?_
        exact h.1 (by rw [List.getElem_set_self, ageL_age]; omega)
      have d0 := HV.out.cell 0 rfl
      have d1 := HV.out.cell 1 rfl
      have d2 := HV.out.cell 2 rfl
      clear hth HMX HMZ
      go_region_with (first
        | (go_at_call 19; first
            | (refine CK1.mono ?_; rintro e v1 ⟨s', rfl, hk1, hv1⟩; have d0' := hv1.cell 0 rfl; have d1' := hv1.cell 1 rfl; have d2' := hv1.cell 2 rfl)
            | (refine (CK2.out s' v1 hk1.out.1).mono ?_; rintro e v2 ⟨rfl, hk2⟩)))
      all_goals
        clear d0 d1 d2 d0' d1' d2' CK1 CK2
        have HV4 : Hid (Var v2 kb [.int .i64 6, .int .i64 (x : Int), .int .i64 1]) := hv1.below hk2.out hv1.lt
        obtain ⟨hK, hT⟩ := hk1.out
        have HB4 : Hid (Below w.heap.size w v2) := below_more (HK2.out.below_turned HB2.out HB2.out.size hT) hk2.out (Nat.le_trans HB2.out.size hT.size)
        have HDK : Hid (keysOf deadH ((M.set x (s', ageL (gageZ (x : Int) 1 (x : Int)) 3600)).map fun r => r.2.head) = [⟨6, (x : Int), 1⟩]) := killed_keys HM.out.1 hxk hkh
        have HK4 : Hid (Keeps v2 w.heap.size w.heap.size 30 lv (M.set x (s', ageL (gageZ (x : Int) 1 (x : Int)) 3600))) := hK.below hk2.out
        have HAT : Hid (∀ j (h : j < (M.set x (s', ageL (gageZ (x : Int) 1 (x : Int)) 3600)).length), ((M.set x (s', ageL (gageZ (x : Int) 1 (x : Int)) 3600))[j]).2.head.age = if j = x then 3600 else (j : Int)) := by
          intro j hj
          by_cases e : j = x
          · subst e; rw [List.getElem_set_self, if_pos rfl, ageL_age]
          · have hj' : j < M.length := by simpa using hj
            rw [List.getElem_set_ne (by omega), if_neg e]
            obtain ⟨hl, e2⟩ := map_at HM.out.1 j hj'
            rw [e2, rowsZ_at, gage_age]
        have hml : (M.set x (s', ageL (gageZ (x : Int) 1 (x : Int)) 3600)).length = i := by rw [List.length_set]; exact HM.out.2
        clear hk1 hk2 hv1 hK hT HK2 HB2 HM HV
        generalize M.set x (s', ageL (gageZ (x : Int) 1 (x : Int)) 3600) = P at *
        subst hml
        have CA := all_any _ _ _ _ _ v2 HK4.out
        go_wp2_with fail
        refine CA.mono ?_
        rintro e v3 ⟨g, c, R, rfl, hg, hRl, hown, hR, hb⟩
        have HG : Hid (R.length = P.length) := hRl
        have HK5 : Hid (Keeps v3 w.heap.size w.heap.size 30 lv P) := HK4.out.below hb
        have HB5 : Hid (Below w.heap.size w v3) := below_more HB4.out hb HB4.out.size
        have HV5 : Hid (Var v3 kb [.int .i64 6, .int .i64 (x : Int), .int .i64 1]) := HV4.out.below hb HV4.out.lt
        have HRO : Hid (v3.ownsRow v2.heap.size 42 12 (.slice (some ⟨g, 0, none⟩) P.length c) P.length (cellsOf rowC R)) := hown
        have HRF : Hid (∀ j (h : j < P.length) (h' : j < R.length), R[j].2 = P[j].2 ∧ Held v3 R[j].1 R[j].2 ∧ Nils R[j].1) := fun j h h' => ⟨(hR j h h').1, (hR j h h').2.1, (hR j h h').2.2.1⟩
        have hcl : (P.length : Int) ≤ (c : Int) := by
          have := own_cap9 hown
          omega
        clear hg hRl hown hR hb CA HK4 HB4 HV4
        have hxP : (x : Int) < (P.length : Int) := by omega
        go_wp2_with fail
        go_loopw [14] (fun t wr => ∃ j : Nat, j ≤ P.length ∧ t = .int .i64 (j : Int) ∧ Hid (Below v3.heap.size v3 wr)) (fun t _ => P.length - (intOf t).toNat)
        case atStart => exact ⟨0, by omega, rfl, Below.refl _ _⟩
        case round =>
          obtain ⟨j, hj, rfl, HQ⟩ := hrel
          by_cases hjl : j < P.length
          · have hjI : (j : Int) < (P.length : Int) := by omega
            have hjR : j < R.length := by rw [HG.out]; exact hjl
            have hrow := (own_row HG.out.symm HRO.out j hjR).below HQ.out (own_row HG.out.symm HRO.out j hjR).lt
            obtain ⟨q1, q2, q3⟩ := HRF.out j hjl hjR
            obtain ⟨r, hr⟩ : ∃ r, R[j] = r := ⟨_, rfl⟩
            rw [hr] at hrow q1 q2 q3
            have hage : r.2.head.age = if j = x then 3600 else (j : Int) := by rw [q1]; exact HAT.out j hjl
            have hpr := HK5.out.row (List.getElem_mem hjl)
            rw [← q1] at hpr
            have CS := dSealed_any r.1 r.2 wr (q2.below HQ.out) hpr.2.2.1 q3
            rw [hpr.2.2.2.1] at CS
            clear q1 q2 q3 hr hpr hjR
            obtain ⟨sr, ⟨⟨a0, a1, a2, a3, a4, a5, a6⟩, fl, lk, bi, ro, ve⟩⟩ := r
            by_cases hjx : j = x
            · subst hjx
              rw [if_pos rfl] at hage
              obtain rfl : a0 = 3600 := hage
              obtain ⟨c0, c1, c2, c3, c4, c5, c6, c7, c8, c9, c10, c11⟩ := hrow
              go_wp2_with fail
              refine CS.mono ?_
              rintro e v4 ⟨rfl, hb4⟩
              have HQ4 : Hid (Below v3.heap.size v3 v4) := HQ.out.trans (hb4.mono HQ.out.size)
              clear hb4 CS c0 c1 c2 c3 c4 c5 c6 c7 c8 c9 c10 c11 HQ
              go_wp2
              go_roundw
              case rel => exact ⟨j + 1, by omega, by go_num, HQ4⟩
              case measure => simp [intOf]; omega
            · rw [if_neg hjx] at hage
              obtain rfl : a0 = (j : Int) := hage
              obtain ⟨c0, c1, c2, c3, c4, c5, c6, c7, c8, c9, c10, c11⟩ := hrow
              have hjx' : ((j : Int) == (x : Int)) = false := by simp; omega
              have hjx2 : ¬ ((j : Int) = (x : Int)) := by omega
              go_wp2_with fail
              refine CS.mono ?_
              rintro e v4 ⟨rfl, hb4⟩
              have HQ4 : Hid (Below v3.heap.size v3 v4) := HQ.out.trans (hb4.mono HQ.out.size)
              clear hb4 CS c0 c1 c2 c3 c4 c5 c6 c7 c8 c9 c10 c11 HQ
              go_wp2
              go_roundw
              case rel => exact ⟨j + 1, by omega, by go_num, HQ4⟩
              case measure => simp [intOf]; omega
          · obtain rfl : j = P.length := by omega
            have hnl : ¬ ((P.length : Int) < (P.length : Int)) := by omega
            have HK6 : Hid (Keeps wr w.heap.size w.heap.size 30 lv P) := HK5.out.below HQ.out
            have HB6 : Hid (Below w.heap.size w wr) := below_more HB5.out HQ.out HB5.out.size
            have HV6 : Hid (Var wr kb [.int .i64 6, .int .i64 (x : Int), .int .i64 1]) := HV5.out.below HQ.out HV5.out.lt
            have CD := dead_any _ _ _ _ _ wr HK6.out
            clear HK5 HB5 HV5 HQ HRO HRF HAT
            go_wp2_with fail
            refine CD.mono ?_
            rintro e v5 ⟨v, rfl, hk, hb⟩
            rw [HDK.out] at hk
            unfold OwnK at hk
            obtain ⟨g9, c9, rfl⟩ := own_some hk (by simp)
            have HKA : Hid (∀ X, Below v5.heap.size v5 X → (X.cell? ⟨g9, 0, none⟩ = some (.int .i64 6) ∧ X.cell? ⟨g9, 1, none⟩ = some (.int .i64 (x : Int)) ∧ X.cell? ⟨g9, 2, none⟩ = some (.int .i64 1) ∧ X.cell? ⟨kb, 0, none⟩ = some (.int .i64 6) ∧ X.cell? ⟨kb, 1, none⟩ = some (.int .i64 (x : Int)) ∧ X.cell? ⟨kb, 2, none⟩ = some (.int .i64 1) ∧ Hid (Below v5.heap.size v5 X))) := by
              intro X hX
              have hv := (HV6.out.below hb HV6.out.lt).below hX (HV6.out.below hb HV6.out.lt).lt
              have hk' := own_below hk hX
              have e0 := key_at rfl hk' 0 (by simp) 0 (by decide)
              have e1 := key_at rfl hk' 0 (by simp) 1 (by decide)
              have e2 := key_at rfl hk' 0 (by simp) 2 (by decide)
              exact ⟨e0, e1, e2, hv.cell 0 rfl, hv.cell 1 rfl, hv.cell 2 rfl, hX⟩
            have HB7 : Hid (Below w.heap.size w v5) := below_more HB6.out hb HB6.out.size
            have hS0 := HKA.out _ (Below.refl _ _).drew
            have CW : Hid (∀ X, Below v5.heap.size v5 X → Calls Try.prog 7 #[] X fun e w' => e = .returned (.bool true) ∧ Hid (Below v5.heap.size v5 w')) := fun X hX => (awake9_any X).mono fun e w' h => ⟨h.1, hX.trans (h.2.mono hX.size)⟩
            clear hk hb CD HK6 HB6 HV6 HDK
            go_upto_region 24 with fail
            first | go_region_held3 (fun X => X.cell? ⟨g9, 0, none⟩ = some (.int .i64 6) ∧ X.cell? ⟨g9, 1, none⟩ = some (.int .i64 (x : Int)) ∧ X.cell? ⟨g9, 2, none⟩ = some (.int .i64 1) ∧ X.cell? ⟨kb, 0, none⟩ = some (.int .i64 6) ∧ X.cell? ⟨kb, 1, none⟩ = some (.int .i64 (x : Int)) ∧ X.cell? ⟨kb, 2, none⟩ = some (.int .i64 1) ∧ Hid (Below v5.heap.size v5 X)) (with_reducible first | exact hS0 | exact HKA.out _ hk6.out | assumption | fail) (first | (go_at_call 7; refine (CW.out _ (by go_split_ands; exact Hid.out (by assumption))).mono ?_; rintro e v6 ⟨rfl, hk6⟩)) | fail
            rename_i hSx
            have HB8 : Hid (Below w.heap.size w v6) := below_more HB7.out hk6.out HB7.out.size
            clear hSx hS0 HKA CW hk6
            go_wp2
            go_ret
            exact ⟨rfl, HB8.out⟩
end Go.Proofs.Ytbogphhbjmapgaa
