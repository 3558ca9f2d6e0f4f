/- One is told as dead at the Tick that makes it so, once; from RefreshAge on it is old: the walk. -/
import Derived.Test.YtbogphhbjmapgaaS9L0
namespace Go.Proofs.Ytbogphhbjmapgaa
open Go.RowKit
set_option linter.unusedVariables false

theorem own_is {w : World} {N e size n : Nat} {v : Value} {xs : List Value} (h : w.ownsRow N e size v n xs) : ∃ a c, v = .slice a n c := by
  rcases h.2 with ⟨h1, h0⟩ | ⟨g, cap, cur, h1, _⟩
  · exact ⟨none, 0, by rw [h1, h0]⟩
  · exact ⟨some ⟨g, 0, none⟩, cap, h1⟩
/-- The base of one advertisement, which has the Age x. -/
def OneAt (w0 w : World) (N b : Nat) (G : LsaZ) (x : Int) : Prop := ∃ lv s, Keeps w N b 5 lv [(s, ageL G x)] ∧ Below N w0 w
theorem OneAt.below {w0 w w' : World} {N b : Nat} {G : LsaZ} {x : Int} (h : OneAt w0 w N b G x) (hb : Below w.heap.size w w') (hN : N ≤ w.heap.size) : OneAt w0 w' N b G x :=
  let ⟨lv, s, h1, h2⟩ := h; ⟨lv, s, h1.below hb, below_more h2 hb hN⟩
def upI (x : Int) : Int := if x < 3600 then x + 1 else x
theorem map_one {M : List Row} {q : LsaZ} (h : M.map (fun r => r.2) = [q]) : ∃ s, M = [(s, q)] := by
  cases M with
  | nil => simp only [List.map_nil, reduceCtorEq] at h
  | cons r R =>
    cases R with
    | nil =>
      obtain ⟨s, x⟩ := r
      simp only [List.map_cons, List.map_nil, List.cons.injEq, and_true] at h
      exact ⟨s, by rw [h]⟩
    | cons _ _ => simp only [List.map_cons, List.cons.injEq, reduceCtorEq, and_false] at h
/-- What the calls tell of it. -/
theorem OneAt.tick {w0 w : World} {N b : Nat} {G : LsaZ} {x : Int} (n : Nat) (h : OneAt w0 w N b G x) (hN : N ≤ w.heap.size) (hn : n = if x = 3599 then 1 else 0) :
    Calls Try.prog 16 #[.pointer (some ⟨b, 0, none⟩)] w fun e w' => ∃ a c, e = .returned (.slice a n c) ∧ OneAt w0 w' N b G (upI x) ∧ w.heap.size ≤ w'.heap.size := by
  obtain ⟨lv, s, h1, h2⟩ := h
  refine (tick_any _ _ _ _ _ w h1).mono ?_
  rintro e w' ⟨v, M, rfl, hk, hK, hM, ht, -⟩
  have e1 : (tickK [(s, ageL G x)]).length = n := by
    rw [hn]; unfold tickK keysOf
    by_cases hx : x = 3599
    · simp [ageL_age, hx]
    · simp [ageL_age, hx]
  unfold OwnK at hk
  rw [e1] at hk
  obtain ⟨a, c, rfl⟩ := own_is hk
  have e2 : upL (ageL G x) = ageL G (upI x) := by
    unfold upL upI
    rw [ageL_age]
    split <;> rfl
  simp only [List.map_cons, List.map_nil, e2] at hM
  obtain ⟨s', rfl⟩ := map_one hM
  exact ⟨a, c, rfl, ⟨lv, s', hK, h1.below_turned h2 hN ht⟩, ht.size⟩
theorem OneAt.keys {w0 w : World} {N b : Nat} {G : LsaZ} {x : Int} {p : HeadZ → Bool} {e : Ending} {w' : World} (n : Nat) (hn : n = if p (ageL G x).head then 1 else 0) {lv : Value} {s : Seats} (h : KeysEnd w p [(s, ageL G x)] e w') : ∃ a c, e = .returned (.slice a n c) ∧ Below w.heap.size w w' := by
  obtain ⟨v, rfl, hk, hb⟩ := h
  have e1 : (keysOf p ([(s, ageL G x)].map fun r => r.2.head)).length = n := by
    rw [hn]; unfold keysOf
    simp only [List.map_cons, List.map_nil, List.filter_cons, List.filter_nil, List.length_map]
    split <;> rfl
  unfold OwnK at hk
  rw [e1] at hk
  obtain ⟨a, c, rfl⟩ := own_is hk
  exact ⟨a, c, rfl, hb⟩
theorem OneAt.old {w0 w : World} {N b : Nat} {G : LsaZ} {x : Int} (adv : Int) (n : Nat) (h : OneAt w0 w N b G x) (hN : N ≤ w.heap.size) (hn : n = if oldH adv (ageL G x).head then 1 else 0) :
    Calls Try.prog 21 #[.pointer (some ⟨b, 0, none⟩), .int .i64 adv] w fun e w' => ∃ a c, e = .returned (.slice a n c) ∧ OneAt w0 w' N b G x ∧ w.heap.size ≤ w'.heap.size := by
  obtain ⟨lv, s, h1, h2⟩ := h
  refine (old_any _ _ _ _ _ adv w h1).mono fun e w' h => ?_
  obtain ⟨a, c, e1, hb⟩ := OneAt.keys (w0 := w0) (N := N) (b := b) (lv := lv) n hn h
  exact ⟨a, c, e1, ⟨lv, s, h1.below hb, below_more h2 hb hN⟩, hb.size⟩
theorem OneAt.dead {w0 w : World} {N b : Nat} {G : LsaZ} {x : Int} (n : Nat) (h : OneAt w0 w N b G x) (hN : N ≤ w.heap.size) (hn : n = if deadH (ageL G x).head then 1 else 0) :
    Calls Try.prog 23 #[.pointer (some ⟨b, 0, none⟩)] w fun e w' => ∃ a c, e = .returned (.slice a n c) ∧ OneAt w0 w' N b G x ∧ w.heap.size ≤ w'.heap.size := by
  obtain ⟨lv, s, h1, h2⟩ := h
  refine (dead_any _ _ _ _ _ w h1).mono fun e w' h => ?_
  obtain ⟨a, c, e1, hb⟩ := OneAt.keys (w0 := w0) (N := N) (b := b) (lv := lv) n hn h
  exact ⟨a, c, e1, ⟨lv, s, h1.below hb, below_more h2 hb hN⟩, hb.size⟩
set_option maxHeartbeats 6400000 in
set_option maxRecDepth 20000 in
theorem ageEnds_walk (first n : Int) (w : World) (hf : 0 ≤ first ∧ first ≤ 65535) (hn : 0 ≤ n ∧ n ≤ 255) : Calls Try.prog 4 #[.int .u16 first, .int .u8 n] w fun e w' => e = .returned (.bool true) ∧ Below w.heap.size w w' := by
  obtain ⟨hf1, hf2⟩ := hf
  obtain ⟨hn1, hn2⟩ := hn
  obtain ⟨a, ha⟩ : ∃ a, first.tmod 3601 = a := ⟨_, rfl⟩
  have ha1 : 0 ≤ a := by rw [← ha]; exact Int.tmod_nonneg _ hf1
  have ha2 : a ≤ 3600 := by
    have := Int.tmod_lt_of_pos first (show (0 : Int) < 3601 by decide)
    omega
  have C1 := fun W => gage_any 7 3 a W (by omega) (by omega) ⟨ha1, ha2⟩
  go_enter Try.func4, Try.ntmps4
  go_upto_region 2 with fail
  clear ha
  go_wp2_with fail
  refine (new_any 5 w (by omega) (by omega)).mono ?_
  rintro e w1 ⟨rfl, rfl⟩
  have HK0 := new_keeps w 5
  have HB : Hid (Below w.heap.size w (w.alloc (.cells #[.int .i64 5, .slice none 0 0] 68))) := below_new' _ _
  have HK : Hid (Keeps (w.alloc (.cells #[.int .i64 5, .slice none 0 0] 68)) w.heap.size w.heap.size 5 (.slice none 0 0) []) := HK0
  clear HK0
  generalize w.alloc (.cells #[.int .i64 5, .slice none 0 0] 68) = W at *
  go_wp2_with fail
  refine (num_any _ _).mono ?_
  rintro e w1 ⟨rfl, rfl⟩
  go_wp2_with fail
  refine (C1 _).mono ?_
  rintro e w2 ⟨s1, rfl, hh, hn, hb⟩
  have HB2 : Hid (Below w.heap.size w w2) := below_more HB.out hb HB.out.size
  have HK2 : Hid (Keeps w2 w.heap.size w.heap.size 5 (.slice none 0 0) []) := HK.out.below hb
  have CP := put_ins w.heap.size w.heap.size 5 (.slice none 0 0) [] s1 (gageZ 7 3 a) w2 HK2.out hh (gage_mid 7 3 a) hn HB2.out.size (gage_sealed (by omega) (by omega) ⟨ha1, ha2⟩) rfl (by simp) (by simp) (insOk_end _ _ rfl)
  clear hb hh hn HK HB C1
  go_wp2_with fail
  refine CP.mono ?_
  rintro e w3 ⟨lv, s2, rfl, hk3, ht3, hh3⟩
  have HO : Hid (OneAt w w3 w.heap.size w.heap.size (gageZ 7 3 a) a ∧ w.heap.size ≤ w3.heap.size) := by
    refine ⟨⟨lv, s2, ?_, HK2.out.below_turned HB2.out HB2.out.size ht3⟩, Nat.le_trans HB2.out.size ht3.size⟩
    have e : ageL (gageZ 7 3 a) a = gageZ 7 3 a := by
      have := ageL_self (gageZ 7 3 a)
      rwa [gage_age] at this
    rw [e]; exact hk3
  have HKG : Hid (keyZ (gageZ 7 3 a).head = ⟨6, 7, 3⟩) := gage_key 7 3 a
  have HAG : Hid ((gageZ 7 3 a).head.adv = 3) := congrArg KeyZ.adv (gage_key 7 3 a)
  clear hk3 ht3 hh3 CP HK2 HB2
  generalize gageZ 7 3 a = G at *
  go_wp2_with fail
  go_loopw [8] (fun t wr => ∃ (k : Nat) (x : Int), 1 ≤ k ∧ (k : Int) ≤ n + 1 ∧ t = .int .i64 (k : Int) ∧ Hid (x = if a + (k : Int) - 1 < 3600 then a + (k : Int) - 1 else 3600) ∧ Hid (OneAt w wr w.heap.size w.heap.size G x ∧ w.heap.size ≤ wr.heap.size)) (fun t _ => n.toNat + 1 - (intOf t).toNat)
  case atStart => exact ⟨1, a, by omega, by omega, rfl, (by show _ = _; split <;> omega), HO.out⟩
  case round =>
    clear HO
    obtain ⟨k, x, hk1, hk2, rfl, HX, HO⟩ := hrel
    by_cases hlt : (k : Int) ≤ n
    · have hcase : ∃ n1 n2 n3 : Nat, n1 = (if x = 3599 then 1 else 0) ∧ n2 = (if oldH 3 (ageL G (upI x)).head then 1 else 0) ∧ n3 = (if deadH (ageL G (upI x)).head then 1 else 0) ∧ ((a + (k : Int) < 1800 ∧ n1 = 0 ∧ n2 = 0 ∧ n3 = 0) ∨ ((1800 ≤ a + (k : Int) ∧ a + (k : Int) < 3600) ∧ n1 = 0 ∧ n2 = 1 ∧ n3 = 0) ∨ (a + (k : Int) = 3600 ∧ n1 = 1 ∧ n2 = 0 ∧ n3 = 1) ∨ (3600 < a + (k : Int) ∧ n1 = 0 ∧ n2 = 0 ∧ n3 = 1)) := by
        refine ⟨_, _, _, rfl, rfl, rfl, ?_⟩
        have h1 : oldH 3 (ageL G (upI x)).head = oldB (upI x) := by
          have := HAG.out
          unfold oldH
          show ((G.head.adv == 3) && _) = _
          rw [this]; rfl
        rw [h1, show deadH (ageL G (upI x)).head = deadB (upI x) from rfl]
        have hx := HX.out
        unfold oldB deadB upI
        simp only [decide_eq_true_eq]
        (repeat' split at hx) <;> (repeat' split) <;> omega
      obtain ⟨n1, n2, n3, hn1, hn2, hn3, hc⟩ := hcase
      have H1 : Hid (n1 = (if x = 3599 then 1 else 0)) := hn1
      have H2 : Hid (n2 = (if oldH 3 (ageL G (upI x)).head then 1 else 0)) := hn2
      have H3 : Hid (n3 = (if deadH (ageL G (upI x)).head then 1 else 0)) := hn3
      have H4 : Hid (0 = (if oldH 4 (ageL G (upI x)).head then 1 else 0)) := by
        have := HAG.out
        show _ = _
        have h1 : oldH 4 (ageL G (upI x)).head = false := by
          unfold oldH
          show ((G.head.adv == 4) && _) = _
          rw [this]; rfl
        rw [h1]; rfl
      have HY : Hid (upI x = if a + ((k + 1 : Nat) : Int) - 1 < 3600 then a + ((k + 1 : Nat) : Int) - 1 else 3600) := by
        have hx := HX.out
        show _ = _
        unfold upI
        (repeat' split at hx) <;> (repeat' split) <;> omega
      clear hn1 hn2 hn3
      go_wp2_with fail
      refine (HO.out.1.tick n1 HO.out.2 H1.out).mono ?_
      rintro e v1 ⟨a1, c1, rfl, hO, hs⟩
      have HO2 : Hid (OneAt w v1 w.heap.size w.heap.size G (upI x) ∧ w.heap.size ≤ v1.heap.size) := ⟨hO, Nat.le_trans HO.out.2 hs⟩
      clear hO hs HO HX
      rcases hc with ⟨hm, rfl, rfl, rfl⟩ | ⟨hm, rfl, rfl, rfl⟩ | ⟨hm, rfl, rfl, rfl⟩ | ⟨hm, rfl, rfl, rfl⟩
      · have hmn : min (a + (k : Int)) 3600 = a + (k : Int) := by omega
        go_wp2_with fail
        refine (HO2.out.1.old 3 _ HO2.out.2 H2.out).mono ?_
        rintro e v2 ⟨a2, c2, rfl, hO, hs⟩
        have HO3 : Hid (OneAt w v2 w.heap.size w.heap.size G (upI x) ∧ w.heap.size ≤ v2.heap.size) := ⟨hO, Nat.le_trans HO2.out.2 hs⟩
        clear hO hs HO2
        go_wp2_with fail
        refine (HO3.out.1.dead _ HO3.out.2 H3.out).mono ?_
        rintro e v3 ⟨a3, c3, rfl, hO, hs⟩
        have HO4 : Hid (OneAt w v3 w.heap.size w.heap.size G (upI x) ∧ w.heap.size ≤ v3.heap.size) := ⟨hO, Nat.le_trans HO3.out.2 hs⟩
        clear hO hs HO3
        go_wp2_with fail
        refine (HO4.out.1.old 4 0 HO4.out.2 H4.out).mono ?_
        rintro e v4 ⟨a4, c4, rfl, hO, hs⟩
        have HO5 : Hid (OneAt w v4 w.heap.size w.heap.size G (upI x) ∧ w.heap.size ≤ v4.heap.size) := ⟨hO, Nat.le_trans HO4.out.2 hs⟩
        clear hO hs HO4
        go_wp2
        go_roundw
        case rel => exact ⟨k + 1, upI x, by omega, by omega, by go_num, HY.out, HO5.out⟩
        case measure => simp [intOf]; omega
      · obtain ⟨hm1, hm2⟩ := hm
        have hmn : min (a + (k : Int)) 3600 = a + (k : Int) := by omega
        go_wp2_with fail
        refine (HO2.out.1.old 3 _ HO2.out.2 H2.out).mono ?_
        rintro e v2 ⟨a2, c2, rfl, hO, hs⟩
        have HO3 : Hid (OneAt w v2 w.heap.size w.heap.size G (upI x) ∧ w.heap.size ≤ v2.heap.size) := ⟨hO, Nat.le_trans HO2.out.2 hs⟩
        clear hO hs HO2
        go_wp2_with fail
        refine (HO3.out.1.dead _ HO3.out.2 H3.out).mono ?_
        rintro e v3 ⟨a3, c3, rfl, hO, hs⟩
        have HO4 : Hid (OneAt w v3 w.heap.size w.heap.size G (upI x) ∧ w.heap.size ≤ v3.heap.size) := ⟨hO, Nat.le_trans HO3.out.2 hs⟩
        clear hO hs HO3
        go_wp2_with fail
        refine (HO4.out.1.old 4 0 HO4.out.2 H4.out).mono ?_
        rintro e v4 ⟨a4, c4, rfl, hO, hs⟩
        have HO5 : Hid (OneAt w v4 w.heap.size w.heap.size G (upI x) ∧ w.heap.size ≤ v4.heap.size) := ⟨hO, Nat.le_trans HO4.out.2 hs⟩
        clear hO hs HO4
        go_wp2
        go_roundw
        case rel => exact ⟨k + 1, upI x, by omega, by omega, by go_num, HY.out, HO5.out⟩
        case measure => simp [intOf]; omega
      · have hmn : min (a + (k : Int)) 3600 = 3600 := by omega
        go_wp2_with fail
        refine (HO2.out.1.old 3 _ HO2.out.2 H2.out).mono ?_
        rintro e v2 ⟨a2, c2, rfl, hO, hs⟩
        have HO3 : Hid (OneAt w v2 w.heap.size w.heap.size G (upI x) ∧ w.heap.size ≤ v2.heap.size) := ⟨hO, Nat.le_trans HO2.out.2 hs⟩
        clear hO hs HO2
        go_wp2_with fail
        refine (HO3.out.1.dead _ HO3.out.2 H3.out).mono ?_
        rintro e v3 ⟨a3, c3, rfl, hO, hs⟩
        have HO4 : Hid (OneAt w v3 w.heap.size w.heap.size G (upI x) ∧ w.heap.size ≤ v3.heap.size) := ⟨hO, Nat.le_trans HO3.out.2 hs⟩
        clear hO hs HO3
        go_wp2_with fail
        refine (HO4.out.1.old 4 0 HO4.out.2 H4.out).mono ?_
        rintro e v4 ⟨a4, c4, rfl, hO, hs⟩
        have HO5 : Hid (OneAt w v4 w.heap.size w.heap.size G (upI x) ∧ w.heap.size ≤ v4.heap.size) := ⟨hO, Nat.le_trans HO4.out.2 hs⟩
        clear hO hs HO4
        go_wp2
        go_roundw
        case rel => exact ⟨k + 1, upI x, by omega, by omega, by go_num, HY.out, HO5.out⟩
        case measure => simp [intOf]; omega
      · have hmn : min (a + (k : Int)) 3600 = 3600 := by omega
        go_wp2_with fail
        refine (HO2.out.1.old 3 _ HO2.out.2 H2.out).mono ?_
        rintro e v2 ⟨a2, c2, rfl, hO, hs⟩
        have HO3 : Hid (OneAt w v2 w.heap.size w.heap.size G (upI x) ∧ w.heap.size ≤ v2.heap.size) := ⟨hO, Nat.le_trans HO2.out.2 hs⟩
        clear hO hs HO2
        go_wp2_with fail
        refine (HO3.out.1.dead _ HO3.out.2 H3.out).mono ?_
        rintro e v3 ⟨a3, c3, rfl, hO, hs⟩
        have HO4 : Hid (OneAt w v3 w.heap.size w.heap.size G (upI x) ∧ w.heap.size ≤ v3.heap.size) := ⟨hO, Nat.le_trans HO3.out.2 hs⟩
        clear hO hs HO3
        go_wp2_with fail
        refine (HO4.out.1.old 4 0 HO4.out.2 H4.out).mono ?_
        rintro e v4 ⟨a4, c4, rfl, hO, hs⟩
        have HO5 : Hid (OneAt w v4 w.heap.size w.heap.size G (upI x) ∧ w.heap.size ≤ v4.heap.size) := ⟨hO, Nat.le_trans HO4.out.2 hs⟩
        clear hO hs HO4
        go_wp2
        go_roundw
        case rel => exact ⟨k + 1, upI x, by omega, by omega, by go_num, HY.out, HO5.out⟩
        case measure => simp [intOf]; omega
    · have hke : (k : Int) = n + 1 := by omega
      clear HAG
      have hxx : x = min (a + n) 3600 := by
        have hx := HX.out
        split at hx <;> omega
      have HGET : Hid (∀ W : World, OneAt w W w.heap.size w.heap.size G x → Calls Try.prog 28 #[.pointer (some ⟨w.heap.size, 0, none⟩), .agg #[.int .i64 6, .int .i64 7, .int .i64 3]] W fun e w' => ∃ s, e = .returned (.tuple #[.agg (lsaA s (ageL G x)), .bool true]) ∧ Below W.heap.size W w') := by
        intro W ⟨lv, s, h1, h2⟩
        have hk : rk (s, ageL G x) = ⟨6, 7, 3⟩ := HKG.out
        have hp := posZ_self h1.rising 0 (by simp)
        simp only [List.getElem_cons_zero, hk] at hp
        have ht : thereB [(s, ageL G x)] ⟨6, 7, 3⟩ = true := by
          unfold thereB; rw [hp]; simp [hk, agZ_self]
        exact (get_yes _ _ _ _ _ ⟨6, 7, 3⟩ W h1 ht (s, ageL G x) (by rw [hp]; rfl)).mono fun e w' ⟨s1, e1, _, _, hb⟩ => ⟨s1, e1, hb⟩
      have CG := HGET.out _ HO.out.1
      obtain ⟨q, hq⟩ : ∃ q, ageL G x = q := ⟨_, rfl⟩
      have HQA : Hid (q.head.age = min (a + n) 3600) := by rw [← hq]; exact hxx
      rw [hq] at CG
      clear hq hxx
      have HW : Hid (Below w.heap.size w wr) := by obtain ⟨lv, s, h1, h2⟩ := HO.out.1; exact h2
      have hnk : ¬ (k : Int) ≤ n := hlt
      clear HGET HO HX HKG hlt
      go_wp2_with fail
      refine CG.mono ?_
      rintro e v1 ⟨s9, rfl, hb⟩
      have HW1 : Hid (Below w.heap.size w (v1.alloc (.cells (lsaA s9 (q)) 42))) := (below_more HW.out hb HW.out.size).alloc (Nat.le_trans HW.out.size hb.size) _
      have HVX : Hid (Var (v1.alloc (.cells (lsaA s9 (q)) 42)) v1.heap.size (rowC (s9, q))) := var_new v1 (rowC (s9, q)) _
      clear hb CG HW
      go_upto_region 14 with fail
      generalize v1.alloc (.cells (lsaA s9 (q)) 42) = V at *
      have c0 := HVX.out.cell 0 rfl
      rw [HQA.out] at c0
      go_wp2_with fail
      refine (awake9_any _).mono ?_
      rintro e v2 ⟨rfl, hb⟩
      have HW2 : Hid (Below w.heap.size w v2) := below_more HW1.out hb HW1.out.size
      clear hb
      go_wp2
      go_ret
      exact ⟨rfl, HW2.out⟩
end Go.Proofs.Ytbogphhbjmapgaa
