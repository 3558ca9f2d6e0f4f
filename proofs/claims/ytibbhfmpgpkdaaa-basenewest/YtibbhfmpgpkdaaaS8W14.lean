/- Which Key is ahead, as the document asks it; Put, where the greatest Seq of each Key is kept. -/
import Derived.Test.YtibbhfmpgpkdaaaS8N
namespace Go.Proofs.Ytibbhfmpgpkdaaa
open Go.RowKit
set_option linter.unusedVariables false

set_option maxHeartbeats 1600000 in
theorem less_any (a b : KeyZ) (w : World) : Calls Try.prog 29 #[.agg (keyV a), .agg (keyV b)] w fun e w' => e = .returned (.bool (decide (agZ a b < 0))) ∧ Below w.heap.size w w' := by
  have HX : Hid (Var ((w.alloc (.cells (keyV a) 41)).alloc (.cells (keyV b) 41)) w.heap.size [.int .i64 a.kind, .int .i64 a.id, .int .i64 a.adv]) := (var_new w [.int .i64 a.kind, .int .i64 a.id, .int .i64 a.adv] _).alloc _
  have HY : Hid (Var ((w.alloc (.cells (keyV a) 41)).alloc (.cells (keyV b) 41)) (w.heap.size + 1) [.int .i64 b.kind, .int .i64 b.id, .int .i64 b.adv]) := by
    have := var_new (w.alloc (.cells (keyV a) 41)) [.int .i64 b.kind, .int .i64 b.id, .int .i64 b.adv] 41
    rw [size_new] at this; exact this
  have HB : Hid (Below w.heap.size w ((w.alloc (.cells (keyV a) 41)).alloc (.cells (keyV b) 41))) := (below_new' _ _).alloc (by simp) _
  have HD : Hid (decide (agZ a b < 0) = decide (a.kind < b.kind ∨ (a.kind = b.kind ∧ (a.id < b.id ∨ (a.id = b.id ∧ a.adv < b.adv))))) := decide_eq_decide.2 agZ_neg
  generalize decide (agZ a b < 0) = R at *
  go_enter Try.func29, Try.ntmps29
  go_upto_region 1 with fail
  generalize (w.alloc (.cells (keyV a) 41)).alloc (.cells (keyV b) 41) = W at *
  have c0 := HX.out.cell 0 rfl
  have c1 := HX.out.cell 1 rfl
  have c2 := HX.out.cell 2 rfl
  have d0 := HY.out.cell 0 rfl
  have d1 := HY.out.cell 1 rfl
  have d2 := HY.out.cell 2 rfl
  by_cases h1 : a.kind = b.kind
  · by_cases h2 : a.id = b.id
    · have e1 : (a.kind != b.kind) = false := by simp [h1]
      have e2 : (a.id != b.id) = false := by simp [h2]
      have HR : Hid (R = decide (a.adv < b.adv)) := HD.out.trans (decide_eq_decide.2 ⟨fun h => by omega, fun h => by omega⟩)
      clear h1 h2 HD
      go_wp2
      go_ret
      exact ⟨ret_bool HR.out.symm, HB.out⟩
    · have e1 : (a.kind != b.kind) = false := by simp [h1]
      have e2 : (a.id != b.id) = true := by simp [h2]
      have HR : Hid (R = decide (a.id < b.id)) := HD.out.trans (decide_eq_decide.2 ⟨fun h => by omega, fun h => by omega⟩)
      clear h1 h2 HD
      go_wp2
      go_ret
      exact ⟨ret_bool HR.out.symm, HB.out⟩
  · have e1 : (a.kind != b.kind) = true := by simp [h1]
    have HR : Hid (R = decide (a.kind < b.kind)) := HD.out.trans (decide_eq_decide.2 ⟨fun h => by omega, fun h => by omega⟩)
    clear h1 HD
    go_wp2
    go_ret
    exact ⟨ret_bool HR.out.symm, HB.out⟩
theorem rowN_right {n : Int} (h : 0 ≤ n ∧ n ≤ 255) : sealedB (rowN n) = true := grp_sealed (by omega) (by omega) (by omega)
/-- What is there behind a Put. -/
def Since (w0 w : World) (N b : Nat) (ms : List Int) : Prop := ∃ lv L, Keeps w N b 100 lv L ∧ Best L ms ∧ L.length ≤ ms.length ∧ Below N w0 w
theorem put_best (N b : Nat) (lv : Value) (L : List Row) (ms : List Int) (n : Int) (s : Seats) (w : World) (h : Keeps w N b 100 lv L) (hb : Best L ms) (hl : L.length ≤ ms.length) (hm : ms.length ≤ 60) (hn : 0 ≤ n ∧ n ≤ 255) (hH : Held w s (rowN n)) (hN : Nils s) (hNw : N ≤ w.heap.size) :
    Calls Try.prog 13 #[.pointer (some ⟨b, 0, none⟩), .agg (lsaA s (rowN n))] w fun e w' => ∃ k : Int, e = .returned (.int .i64 k) ∧ Since w w' N b (ms ++ [n]) := by
  have hbl : ∀ {w' : World}, Turned b lv.ownBlock w w' → Below N w w' := fun ht => ht.below hNw h.lo (fun k hk => (World.ownsRow.lt h.own k hk).1)
  have hsd := rowN_right hn
  have hmid : Mid (rowN n) := grp_mid _ _ _
  cases ht : thereB L (keyN n) with
  | false =>
    refine (put_ins N b 100 lv L s (rowN n) w h hH hmid hN hNw hsd (by rw [rowN_key]; exact ht) (by omega) (by omega) (insOk_any _ _ (posZ_le _ _))).mono ?_
    rintro e w' ⟨lv', s', rfl, hk, ht', -⟩
    exact ⟨0, rfl, lv', _, hk, best_ins hb h.rising ht _ s', by rw [insL_len]; simp; omega, hbl ht'⟩
  | true =>
    obtain ⟨hp, hk⟩ := thereB_yes ht
    obtain ⟨n0, hm0, e0, hmax⟩ := hb.1 _ (List.getElem_mem hp)
    have hkey : keyN n0 = keyN n := by rw [← key_of_row e0, hk]
    by_cases hlt : n < n0
    · refine (put_old N b 100 lv L s (rowN n) w h hH hmid hN (posZ L (keyN n)) L[posZ L (keyN n)] (by rw [rowN_key]) (List.getElem?_eq_getElem hp) (by rw [rowN_key]; exact hk) hsd (by rw [e0, newI_seq (by rw [rowN_seq, rowN_seq]; exact hlt)]; omega)).mono ?_
      rintro e w' ⟨rfl, hB⟩
      exact ⟨9, rfl, lv, L, h.below hB, best_old hb (List.getElem_mem hp) e0 hk hlt, by simp; omega, hB.mono hNw⟩
    · refine (put_set N b 100 lv L s (rowN n) w h hH hmid hN (posZ L (keyN n)) L[posZ L (keyN n)] (by rw [rowN_key]) (List.getElem?_eq_getElem hp) (by rw [rowN_key]; exact hk) hsd ?_).mono ?_
      · rw [e0]
        rcases Int.lt_or_le n0 n with h' | h'
        · rw [newI_swap, newI_seq (by rw [rowN_seq, rowN_seq]; exact h')]; omega
        · obtain rfl : n0 = n := by omega
          rw [newI_self]; omega
      · rintro e w' ⟨lv', s', rfl, hk', ht', -⟩
        exact ⟨0, rfl, lv', _, hk', best_set hb h.rising hp e0 hk (by omega) s', by simp; omega, hbl ht'⟩
end Go.Proofs.Ytibbhfmpgpkdaaa
