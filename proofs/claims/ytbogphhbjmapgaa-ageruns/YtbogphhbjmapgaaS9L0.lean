/- The document's example of layer 9; of no database: the walks. -/
import Derived.Test.YtbogphhbjmapgaaS9W7
namespace Go.Proofs.Ytbogphhbjmapgaa
open Go.RowKit
set_option linter.unusedVariables false

theorem own_some {w : World} {N e size n : Nat} {v : Value} {xs : List Value} (h : w.ownsRow N e size v n xs) (hn : 0 < n) : ∃ g c, v = .slice (some ⟨g, 0, none⟩) n c := by
  rcases h.2 with ⟨_, h0⟩ | ⟨g, cap, cur, h1, _⟩
  · omega
  · exact ⟨g, cap, h1⟩
theorem keyC_length (k : KeyZ) : (keyC k).length = 3 := rfl
theorem key_at {w : World} {N g c n : Nat} {D : List KeyZ} (hn : n = D.length) (h : w.ownsRow N 25 3 (.slice (some ⟨g, 0, none⟩) n c) n (cellsOf keyC D)) (i : Nat) (hi : i < D.length) (j : Nat) (hj : j < 3) : w.cell? ⟨g, i * 3 + j, none⟩ = some ((keyC D[i])[j]'(by rw [keyC_length]; exact hj)) := by
  subst hn
  obtain ⟨b', off', e, hr⟩ := (owns_lies h).cell keyC 3 keyC_length (by rintro rfl; simp at hi) (by omega)
  cases e
  have := hr i j hi hj
  rw [Nat.zero_add] at this
  rw [this]; exact List.getElem?_eq_getElem _
theorem Keeps.below_turned {w0 w w' : World} {N b : Nat} {most : Int} {lv : Value} {L : List Row} (h : Keeps w N b most lv L) (hb : Below N w0 w) (hN : N ≤ w.heap.size) (ht : Turned b lv.ownBlock w w') : Below N w0 w' :=
  hb.trans (ht.below hN h.lo h.own_lo)
set_option maxHeartbeats 3200000 in
theorem awake9_any (w : World) : Calls Try.prog 7 #[] w fun e w' => e = .returned (.bool true) ∧ Below w.heap.size w w' := by
  have C1 := gage_any 7 1 3599
  go_enter Try.func7, Try.ntmps7
  go_wp2_with fail
  refine (new_any 5 w (by omega) (by omega)).mono ?_
  rintro e w1 ⟨rfl, rfl⟩
  have HK0 := new_keeps w 5
  have HB : Hid (Below w.heap.size w (w.alloc (.cells #[.int .i64 5, .slice none 0 0] 68))) := below_new' _ _
  have HK : Hid (Keeps (w.alloc (.cells #[.int .i64 5, .slice none 0 0] 68)) w.heap.size w.heap.size 5 (.slice none 0 0) []) := HK0
  clear HK0
  generalize w.alloc (.cells #[.int .i64 5, .slice none 0 0] 68) = W at *
  go_wp2_with fail
  refine (num_any _ _).mono ?_
  rintro e w1 ⟨rfl, rfl⟩
  go_wp2_with fail
  refine (C1 _ (by omega) (by omega) (by omega)).mono ?_
  rintro e w2 ⟨s1, rfl, hh, hn, hb⟩
  have HB2 : Hid (Below w.heap.size w w2) := below_more HB.out hb HB.out.size
  have HK2 : Hid (Keeps w2 w.heap.size w.heap.size 5 (.slice none 0 0) []) := HK.out.below hb
  have CP := put_ins w.heap.size w.heap.size 5 (.slice none 0 0) [] s1 (gageZ 7 1 3599) w2 HK2.out hh (gage_mid 7 1 3599) hn HB2.out.size (gage_sealed (by omega) (by omega) (by omega)) rfl (by simp) (by simp) (insOk_end _ _ rfl)
  clear hb hh hn HK HB
  go_wp2_with fail
  refine CP.mono ?_
  rintro e w3 ⟨lv, s2, rfl, hk3, ht3, hh3⟩
  have HK3 : Hid (Keeps w3 w.heap.size w.heap.size 5 lv [(s2, gageZ 7 1 3599)]) := hk3
  have HB3 : Hid (Below w.heap.size w w3) := HK2.out.below_turned HB2.out HB2.out.size ht3
  clear hk3 ht3 hh3 CP HK2 HB2 C1
  have CT := tick_any _ _ _ _ _ w3 HK3.out
  go_wp2_with fail
  refine CT.mono ?_
  rintro e w4 ⟨v, M, rfl, hk4, -, -, ht4, -⟩
  have HB4 : Hid (Below w.heap.size w w4) := HK3.out.below_turned HB3.out HB3.out.size ht4
  have e1 : tickK [(s2, gageZ 7 1 3599)] = [⟨6, 7, 1⟩] := by
    unfold tickK keysOf
    simp [gage_age, gage_key]
  rw [e1] at hk4
  obtain ⟨g, c, rfl⟩ := own_some hk4 (by decide)
  have d1 := key_at rfl hk4 0 (by decide) 1 (by decide)
  simp only [List.getElem_cons_zero, List.getElem_cons_succ, keyC] at d1
  clear hk4 ht4 e1 CT HK3 HB3
  go_wp2_with (first | (go_at_call 10; refine (num_any _ _).mono ?_; rintro e w' ⟨rfl, rfl⟩))
  go_ret
  exact ⟨rfl, HB4.out⟩
set_option maxHeartbeats 3200000 in
theorem ageNil_walk (adv : Int) (k : KeyZ) (w : World) : Calls Try.prog 6 #[.int .i64 adv, .agg (keyV k)] w fun e w' => e = .returned (.bool true) ∧ Below w.heap.size w w' := by
  have HB : Hid (Below w.heap.size w (w.alloc (.cells (keyV k) 25))) := below_new' _ _
  have HV : Hid (Var (w.alloc (.cells (keyV k) 25)) w.heap.size [.int .i64 k.kind, .int .i64 k.id, .int .i64 k.adv]) := var_new w [.int .i64 k.kind, .int .i64 k.id, .int .i64 k.adv] _
  go_enter Try.func6, Try.ntmps6
  go_upto_region 1 with fail
  generalize w.alloc (.cells (keyV k) 25) = W at *
  go_wp2_with fail
  refine (tick_nil _).mono ?_
  rintro e w1 ⟨rfl, hb⟩
  replace HV : Hid (Var w1 w.heap.size [.int .i64 k.kind, .int .i64 k.id, .int .i64 k.adv]) := HV.out.below hb HV.out.lt
  replace HB : Hid (Below w.heap.size w w1) := below_more HB.out hb HB.out.size
  clear hb
  go_wp2_with fail
  refine (old_nil _ _).mono ?_
  rintro e w2 ⟨rfl, hb⟩
  replace HV : Hid (Var w2 w.heap.size [.int .i64 k.kind, .int .i64 k.id, .int .i64 k.adv]) := HV.out.below hb HV.out.lt
  replace HB : Hid (Below w.heap.size w w2) := below_more HB.out hb HB.out.size
  clear hb
  go_wp2_with fail
  refine (dead_nil _).mono ?_
  rintro e w3 ⟨rfl, hb⟩
  replace HV : Hid (Var w3 w.heap.size [.int .i64 k.kind, .int .i64 k.id, .int .i64 k.adv]) := HV.out.below hb HV.out.lt
  replace HB : Hid (Below w.heap.size w w3) := below_more HB.out hb HB.out.size
  clear hb
  have d0 := HV.out.cell 0 rfl
  have d1 := HV.out.cell 1 rfl
  have d2 := HV.out.cell 2 rfl
  go_wp2_with fail
  refine (kill_none none k _ (fun X _ => get_nil k X)).mono ?_
  rintro e w4 ⟨rfl, hb⟩
  replace HB : Hid (Below w.heap.size w w4) := below_more HB.out hb HB.out.size
  clear hb d0 d1 d2 HV
  go_wp2_with fail
  refine (awake9_any _).mono ?_
  rintro e w5 ⟨rfl, hb⟩
  replace HB : Hid (Below w.heap.size w w5) := below_more HB.out hb HB.out.size
  clear hb
  go_wp2
  go_ret
  exact ⟨rfl, HB.out⟩
end Go.Proofs.Ytbogphhbjmapgaa
