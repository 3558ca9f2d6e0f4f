/- Old, Dead, Kill; of no database. -/
import Derived.Test.YtbogphhbjmapgaaS9W5
import Derived.Test.YtbogphhbjmapgaaS8N0
namespace Go.Proofs.Ytbogphhbjmapgaa
open Go.RowKit
set_option linter.unusedVariables false

set_option maxHeartbeats 800000 in
theorem old_any (N b : Nat) (most : Int) (lv : Value) (L : List Row) (adv : Int) (w : World) (h : Keeps w N b most lv L) :
    Calls Try.prog 21 #[.pointer (some ⟨b, 0, none⟩), .int .i64 adv] w (KeysEnd w (oldH adv) L) := by
  have HB : Hid (Below w.heap.size w (w.alloc (.cells #[.int .i64 adv] 3))) := below_new' _ _
  have HC : Hid ((w.alloc (.cells #[.int .i64 adv] 3)).cell? ⟨w.heap.size, 0, none⟩ = some (.int .i64 adv)) := (var_new w [.int .i64 adv] 3).cell 0 rfl
  have HS : Hid (w.heap.size < (w.alloc (.cells #[.int .i64 adv] 3)).heap.size) := (var_new w [.int .i64 adv] 3).lt
  have CK := keys_old N b most lv L w.heap.size adv (w.alloc (.cells #[.int .i64 adv] 3)) (h.below HB.out) HC.out HS.out
  clear h HC HS
  go_enter Try.func21, Try.ntmps21
  go_upto_region 1 with fail
  generalize w.alloc (.cells #[.int .i64 adv] 3) = W at *
  go_wp2_with fail
  refine CK.mono ?_
  rintro e w2 ⟨v, rfl, hk, hb⟩
  have HE : Hid (KeysEnd w (oldH adv) L (.returned v) w2) := ⟨v, rfl, ownsRow_base hk HB.out.size, below_more HB.out hb HB.out.size⟩
  clear hk hb CK
  go_wp2
  go_ret
  exact HE.out
set_option maxHeartbeats 800000 in
theorem dead_any (N b : Nat) (most : Int) (lv : Value) (L : List Row) (w : World) (h : Keeps w N b most lv L) :
    Calls Try.prog 23 #[.pointer (some ⟨b, 0, none⟩)] w (KeysEnd w deadH L) := by
  have CK := keys_dead N b most lv L w h
  clear h
  go_enter Try.func23, Try.ntmps23
  go_wp2_with fail
  refine CK.mono ?_
  rintro e w2 ⟨v, rfl, hk, hb⟩
  have HE : Hid (KeysEnd w deadH L (.returned v) w2) := ⟨v, rfl, hk, hb⟩
  clear hk hb CK
  go_wp2
  go_ret
  exact HE.out
theorem keys_nil (fv : Value) (w : World) : Calls Try.prog 46 #[.pointer none, fv] w fun e w' => e = .returned (.slice none 0 0) ∧ Below w.heap.size w w' := by
  go_enter Try.func46, Try.ntmps46
  go_wp2_with fail
  refine (heads_nil _).mono ?_
  rintro e w2 ⟨rfl, rfl⟩
  go_wp2_with fail
  go_loopw [5, 11] (fun u t wr => u = .slice none 0 0 ∧ t = .int .i64 0 ∧ wr = w2) (fun _ _ _ => 0)
  case atStart => exact ⟨rfl, rfl, rfl⟩
  case round =>
    obtain ⟨rfl, rfl, rfl⟩ := hrel
    go_wp2
    go_ret
    exact ⟨rfl, Below.refl _ _⟩
theorem old_nil (adv : Int) (w : World) : Calls Try.prog 21 #[.pointer none, .int .i64 adv] w fun e w' => e = .returned (.slice none 0 0) ∧ Below w.heap.size w w' := by
  have HB : Hid (Below w.heap.size w (w.alloc (.cells #[.int .i64 adv] 3))) := below_new' _ _
  go_enter Try.func21, Try.ntmps21
  go_upto_region 1 with fail
  generalize w.alloc (.cells #[.int .i64 adv] 3) = W at *
  go_wp2_with fail
  refine (keys_nil _ _).mono ?_
  rintro e w2 ⟨rfl, hb⟩
  have HB2 : Hid (Below w.heap.size w w2) := below_more HB.out hb HB.out.size
  clear hb
  go_wp2
  go_ret
  exact ⟨rfl, HB2.out⟩
theorem dead_nil (w : World) : Calls Try.prog 23 #[.pointer none] w fun e w' => e = .returned (.slice none 0 0) ∧ Below w.heap.size w w' := by
  go_enter Try.func23, Try.ntmps23
  go_wp2_with fail
  refine (keys_nil _ _).mono ?_
  rintro e w2 ⟨rfl, hb⟩
  go_wp2
  go_ret
  exact ⟨rfl, hb⟩
theorem tick_nil (w : World) : Calls Try.prog 16 #[.pointer none] w fun e w' => e = .returned (.slice none 0 0) ∧ Below w.heap.size w w' := by
  go_enter Try.func16, Try.ntmps16
  go_wp2_with fail
  refine (ball_nil _).mono ?_
  rintro e w2 ⟨rfl, rfl⟩
  go_wp2_with fail
  go_loopw [3, 9] (fun u t wr => u = .slice none 0 0 ∧ t = .int .i64 0 ∧ wr = w2) (fun _ _ _ => 0)
  case atStart => exact ⟨rfl, rfl, rfl⟩
  case round =>
    obtain ⟨rfl, rfl, rfl⟩ := hrel
    go_wp2
    go_ret
    exact ⟨rfl, Below.refl _ _⟩
theorem Still.of_set {w w0 : World} {lv : Value} {L : List Row} {p : Nat} {s : Seats} {l : LsaZ} (h : FarR w.heap.size s) (hs : w0.heap.size ≤ w.heap.size) : Still w0 lv lv L (L.set p (s, l)) := still_set ⟨h.1.mono hs, h.2.1.mono hs, h.2.2.mono hs⟩
def KillEnd (w : World) (N b : Nat) (most : Int) (lv : Value) (L : List Row) (p : Nat) (r : Row) (e : Ending) (w' : World) : Prop := ∃ s', e = .returned (.bool true) ∧ Keeps w' N b most lv (L.set p (s', ageL r.2 3600)) ∧ Turned b lv.ownBlock w w' ∧ Still w lv lv L (L.set p (s', ageL r.2 3600))
set_option maxHeartbeats 1600000 in
theorem kill_none (P : Option Addr) (k : KeyZ) (w : World) (hG : ∀ W, Below w.heap.size w W → Calls Try.prog 28 #[.pointer P, .agg (keyV k)] W fun e w' => e = .returned (.tuple #[.agg zero12.toArray, .bool false]) ∧ Below W.heap.size W w') :
    Calls Try.prog 19 #[.pointer P, .agg (keyV k)] w fun e w' => e = .returned (.bool false) ∧ Below w.heap.size w w' := by
  have HB : Hid (Below w.heap.size w (w.alloc (.cells (keyV k) 25))) := below_new' _ _
  have HV : Hid (Var (w.alloc (.cells (keyV k) 25)) w.heap.size [.int .i64 k.kind, .int .i64 k.id, .int .i64 k.adv]) := var_new w [.int .i64 k.kind, .int .i64 k.id, .int .i64 k.adv] _
  have CG := hG _ HB.out
  clear hG
  go_enter Try.func19, Try.ntmps19
  go_upto_region 1 with fail
  generalize w.alloc (.cells (keyV k) 25) = W at *
  have d0 := HV.out.cell 0 rfl
  have d1 := HV.out.cell 1 rfl
  have d2 := HV.out.cell 2 rfl
  go_wp2_with fail
  refine CG.mono ?_
  rintro e w2 ⟨rfl, hb⟩
  have HB2 : Hid (Below w.heap.size w (w2.alloc (.cells zero12.toArray 42))) := (below_more HB.out hb HB.out.size).alloc (Nat.le_trans HB.out.size hb.size) _
  clear hb CG d0 d1 d2
  go_wp2
  go_ret
  exact ⟨rfl, HB2.out⟩
set_option maxHeartbeats 3200000 in
theorem kill_there (N b : Nat) (most : Int) (lv : Value) (L : List Row) (k : KeyZ) (w : World) (h : Keeps w N b most lv L) (ht : thereB L k = true) (r : Row) (hr : L[posZ L k]? = some r) :
    Calls Try.prog 19 #[.pointer (some ⟨b, 0, none⟩), .agg (keyV k)] w fun e w' => (3600 ≤ r.2.head.age → e = .returned (.bool false) ∧ Below w.heap.size w w') ∧ (r.2.head.age < 3600 → KillEnd w N b most lv L (posZ L k) r e w') := by
  have HK : Hid (Keeps w N b most lv L) := h
  have HR : Hid (L[posZ L k]? = some r) := hr
  have HRK : Hid (rk r = k ∧ r ∈ L) := by
    obtain ⟨hp, e⟩ := thereB_yes ht
    rw [List.getElem?_eq_getElem hp] at hr
    cases hr
    exact ⟨e, List.getElem_mem hp⟩
  have HB : Hid (Below w.heap.size w (w.alloc (.cells (keyV k) 25))) := below_new' _ _
  have HV : Hid (Var (w.alloc (.cells (keyV k) 25)) w.heap.size [.int .i64 k.kind, .int .i64 k.id, .int .i64 k.adv]) := var_new w [.int .i64 k.kind, .int .i64 k.id, .int .i64 k.adv] _
  have CG := get_yes N b most lv L k _ (h.below HB.out) ht r hr
  clear h hr ht
  go_enter Try.func19, Try.ntmps19
  go_upto_region 1 with fail
  generalize w.alloc (.cells (keyV k) 25) = W at *
  have d0 := HV.out.cell 0 rfl
  have d1 := HV.out.cell 1 rfl
  have d2 := HV.out.cell 2 rfl
  go_wp2_with fail
  refine CG.mono ?_
  rintro e w2 ⟨s, rfl, hh, hn, hb⟩
  have HB2 : Hid (Below w.heap.size w (w2.alloc (.cells (lsaA s r.2) 42))) := (below_more HB.out hb HB.out.size).alloc (Nat.le_trans HB.out.size hb.size) _
  have HH : Hid (Held (w2.alloc (.cells (lsaA s r.2) 42)) s r.2 ∧ Nils s) := ⟨hh.below (below_new' _ _), hn⟩
  have HBX : Hid (Var (w2.alloc (.cells (lsaA s r.2) 42)) w2.heap.size (rowC (s, r.2))) := var_new w2 (rowC (s, r.2)) _
  have HS2 : Hid (w.heap.size ≤ w2.heap.size) := Nat.le_trans HB.out.size hb.size
  have HOF : Hid (Off w2.heap.size (s, r.2)) := off_old (r := (s, r.2)) hh (Nat.le_refl _)
  clear hh hn hb CG d0 d1 d2 HV HB
  go_upto_region 2 with fail
  generalize w2.alloc (.cells (lsaA s r.2) 42) = V at *
  have c0 := HBX.out.cell 0 rfl
  have c1 := HBX.out.cell 1 rfl
  have c2 := HBX.out.cell 2 rfl
  have c3 := HBX.out.cell 3 rfl
  have c4 := HBX.out.cell 4 rfl
  have c5 := HBX.out.cell 5 rfl
  have c6 := HBX.out.cell 6 rfl
  have CD := isDead_any r.2.head V
  by_cases hd : 3600 ≤ r.2.head.age
  · rw [show deadB r.2.head.age = true by unfold deadB; simpa using hd] at CD
    go_wp2_with fail
    refine CD.mono ?_
    rintro e w3 ⟨rfl, hb3⟩
    have HB3 : Hid (Below w.heap.size w w3) := below_more HB2.out hb3 HB2.out.size
    clear hb3 CD c0 c1 c2 c3 c4 c5 c6
    go_wp2
    go_ret
    exact ⟨fun _ => ⟨rfl, HB3.out⟩, fun h => absurd h (by omega)⟩
  · rw [show deadB r.2.head.age = false by unfold deadB; simpa using hd] at CD
    go_wp2_with fail
    refine CD.mono ?_
    rintro e w3 ⟨rfl, hb3⟩
    have HB3 : Hid (Below w.heap.size w w3) := below_more HB2.out hb3 HB2.out.size
    have HBX3 : Hid (Var w3 w2.heap.size (rowC (s, r.2))) := HBX.out.below hb3 HBX.out.lt
    have HH3 : Hid (Held w3 s r.2 ∧ Nils s) := ⟨HH.out.1.below hb3, HH.out.2⟩
    clear hb3 CD c0 c1 c2 c3 c4 c5 c6 HB2 HH HBX
    obtain ⟨q, hq⟩ : ∃ q, ageL r.2 3600 = q := ⟨_, rfl⟩
    have HQ : Hid (ageL r.2 3600 = q) := hq
    have c0 := HBX3.out.cell 0 rfl
    have f0 := HBX3.out.frozen 0
    have HBX4 : Hid (Var (w3.setCell ⟨w2.heap.size, 0, none⟩ (.int .i64 3600)) w2.heap.size (rowC (s, q))) := by
      rw [← hq]; exact HBX3.out.set 0 _
    have HB4 : Hid (Below w.heap.size w (w3.setCell ⟨w2.heap.size, 0, none⟩ (.int .i64 3600))) := HB3.out.setCell HS2.out _
    have HH4 : Hid (Held (w3.setCell ⟨w2.heap.size, 0, none⟩ (.int .i64 3600)) s q ∧ Nils s) := by
      refine ⟨?_, HH3.out.2⟩
      rw [← hq]
      exact ageL_held (HH3.out.1.turned (r := (s, r.2)) (Turned.set w2.heap.size none w3 ⟨w2.heap.size, 0, none⟩ _ (.inl rfl)) HOF.out (fun k hk => by cases hk))
    clear hq
    go_upto_region 5 with fail
    clear c0 f0 HBX3 HB3 HH3
    generalize w3.setCell ⟨w2.heap.size, 0, none⟩ (.int .i64 3600) = V2 at *
    have hK := HK.out.below HB4.out
    have hrow := hK.row HRK.out.2
    have hag := sealed_age hrow.2.2.2.1
    have CB := back_any N b most lv L s (ageL r.2 3600) V2 hK (by rw [HQ.out]; exact HH4.out.1) (ageL_mid hrow.2.2.1) HH4.out.2 (posZ L k) r (by rw [ageL_key, ← HRK.out.1]; rfl) HR.out rfl (ageL_sealed hrow.2.2.2.1 (by omega) (by omega)) (newI_kill (by omega))
    rw [HQ.out] at CB
    clear hK hrow hag
    have c0 := HBX4.out.cell 0 rfl
    have c1 := HBX4.out.cell 1 rfl
    have c2 := HBX4.out.cell 2 rfl
    have c3 := HBX4.out.cell 3 rfl
    have c4 := HBX4.out.cell 4 rfl
    have c5 := HBX4.out.cell 5 rfl
    have c6 := HBX4.out.cell 6 rfl
    have c7 := HBX4.out.cell 7 rfl
    have c8 := HBX4.out.cell 8 rfl
    have c9 := HBX4.out.cell 9 rfl
    have c10 := HBX4.out.cell 10 rfl
    have c11 := HBX4.out.cell 11 rfl
    go_wp2_with fail
    refine CB.mono ?_
    rintro e w5 ⟨s', rfl, hk, htu, hfa⟩
    have HE : Hid (KillEnd w N b most lv L (posZ L k) r (.returned (.bool true)) w5) := by
      refine ⟨s', rfl, ?_, (Turned.of b _ HB4.out).trans htu, ?_⟩
      · rw [HQ.out]; exact hk
      · rw [HQ.out]; exact Still.of_set hfa HB4.out.size
    clear hk htu hfa CB c0 c1 c2 c3 c4 c5 c6 c7 c8 c9 c10 c11
    go_wp2
    go_ret
    exact ⟨fun h => absurd h (by omega), fun _ => HE.out⟩
end Go.Proofs.Ytbogphhbjmapgaa
