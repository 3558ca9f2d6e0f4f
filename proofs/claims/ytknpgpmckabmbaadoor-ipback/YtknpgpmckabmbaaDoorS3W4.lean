/- The head of a datagram with its sum; what keeps one from being put; Put. -/
import Derived.Test.YtknpgpmckabmbaaDoorS3W3
import Derived.Deep.RegionHeld3
namespace Go.Proofs.YtknpgpmckabmbaaDoor
open Go.RowKit

theorem inet_at (a : Option Addr) (m cap : Nat) (zs : List Int) (w : World) (hm : m = zs.length) (hB : Bts w a zs) (hz : AreBytes zs) (hc : zs.length ≤ cap) (hl : zs.length ≤ 140737488355328) :
    Calls Tryd.prog 28 #[.slice a m cap] w fun e w' => e = .returned (.int .i64 (inetZ zs)) ∧ Below w.heap.size w w' := by subst hm; exact inet_any a cap zs w hB hz hc hl
/-- What a region that calls leaves as it was: the datagram's variable, and all that was there. -/
theorem keep_box {w W W' : World} {b : Nat} {t p s d : Int} {v : Value} (h : W.cell? ⟨b, 0, none⟩ = some (.int .i64 t) ∧ W.cell? ⟨b, 1, none⟩ = some (.int .i64 p) ∧ W.cell? ⟨b, 2, none⟩ = some (.int .i64 s) ∧ W.cell? ⟨b, 3, none⟩ = some (.int .i64 d) ∧ W.cell? ⟨b, 4, none⟩ = some v ∧ Below w.heap.size w W) (hb : Below W.heap.size W W') :
    W'.cell? ⟨b, 0, none⟩ = some (.int .i64 t) ∧ W'.cell? ⟨b, 1, none⟩ = some (.int .i64 p) ∧ W'.cell? ⟨b, 2, none⟩ = some (.int .i64 s) ∧ W'.cell? ⟨b, 3, none⟩ = some (.int .i64 d) ∧ W'.cell? ⟨b, 4, none⟩ = some v ∧ Below w.heap.size w W' := by
  obtain ⟨h0, h1, h2, h3, h4, h5⟩ := h
  have hl : b < W.heap.size := by
    rcases Nat.lt_or_ge b W.heap.size with h | h
    · exact h
    · simp [World.cell?, Array.getElem?_eq_none h] at h0
  exact ⟨by rw [hb.cell hl]; exact h0, by rw [hb.cell hl]; exact h1, by rw [hb.cell hl]; exact h2, by rw [hb.cell hl]; exact h3, by rw [hb.cell hl]; exact h4, h5.trans (hb.mono h5.size)⟩

set_option maxHeartbeats 1600000 in
theorem head_any (t p s d : Int) (a : Option Addr) (n cp : Nat) (w : World) (hn : n ≤ 70368744177664) :
    Calls Tryd.prog 17 #[.agg #[.int .i64 t, .int .i64 p, .int .i64 s, .int .i64 d, .slice a n cp]] w fun e w' =>
      ∃ g cap, e = .returned (.slice (some ⟨g, 0, none⟩) 20 cap) ∧ Owns w' w.heap.size g cap (ipZ t p s d n) ∧ Below w.heap.size w w' := by
  go_enter Tryd.func17, Tryd.ntmps17
  go_upto_region 1 with fail
  obtain ⟨x0, x1, x2, x3, x4⟩ := box_new w t p s d (.slice a n cp)
  have HB : Below w.heap.size w (w.alloc (.cells #[.int .i64 t, .int .i64 p, .int .i64 s, .int .i64 d, .slice a n cp] 24)) := (Below.refl _ _).alloc (Nat.le_refl _) _
  generalize w.alloc (.cells #[.int .i64 t, .int .i64 p, .int .i64 s, .int .i64 d, .slice a n cp] 24) = W at *
  have HBd : Below w.heap.size w W.drew := HB.drew
  go_region_held3 (fun w' => w'.cell? ⟨w.heap.size, 0, none⟩ = some (.int .i64 t) ∧ w'.cell? ⟨w.heap.size, 1, none⟩ = some (.int .i64 p) ∧ w'.cell? ⟨w.heap.size, 2, none⟩ = some (.int .i64 s) ∧ w'.cell? ⟨w.heap.size, 3, none⟩ = some (.int .i64 d) ∧ w'.cell? ⟨w.heap.size, 4, none⟩ = some (.slice a n cp) ∧ Below w.heap.size w w') (first | go_keep | exact keep_box (by assumption) hb)
    (first | (go_at_call 27; refine (headWith_any t p s d _ a n cp _ hn).mono ?_; rintro e w' ⟨g, cap, rfl, ho, hb⟩) | (go_at_call 28; refine (inet_at _ _ _ _ _ rfl ho.bts (headZ_bd _ _ _ _ _ _) ho.cap (by simp [headZ_length])).mono ?_; rintro e w' ⟨rfl, hb⟩))
  rename_i w1 g1 c1 ho1 hb1 w2 hb2 hH
  have hs : w.heap.size ≤ w2.heap.size := by have h1 := HBd.size; have h2 := hb1.size; have h3 := hb2.size; omega
  have HR : Hid (Owns w' w.heap.size g cap (ipZ t p s d n) ∧ Below w.heap.size w w') := ⟨ho.base hs, hH.2.2.2.2.2⟩
  clear ho ho1 hb hb1 hb2 hH HB HBd
  go_wp2
  go_ret
  exact ⟨_, _, rfl, HR.out⟩

/-- What keeps a datagram from being put: none, or one wrapper around one fault. -/
def isFault (k : Int) (v : Value) : Prop := (k = 0 ∧ v = .nilIface) ∨ k ≠ 0 ∧ ∃ s : ByteArray, v = .iface 55 (.agg #[.string s, .iface 53 (.int .i64 k)])
theorem putE_arg (t p s d : Int) (n : Nat) (h : okB t p s d = false) : putE t p s d n = 1 := by unfold putE; rw [if_pos h]
theorem putE_long (t p s d : Int) (n : Nat) (h : okB t p s d = true) (hn : 1024 < n) : putE t p s d n = 6 := by unfold putE; rw [if_neg (by simp [h]), if_pos hn]
theorem putE_ok (t p s d : Int) (n : Nat) (h : okB t p s d = true) (hn : ¬ 1024 < n) : putE t p s d n = 0 := by unfold putE; rw [if_neg (by simp [h]), if_neg hn]
theorem okB_of (t p s d : Int) : okB t p s d = (octB t && octB p && rightI s && rightI d) := rfl
theorem fault_of {k k' : Int} (s : ByteArray) (h : k' = k) (h0 : k ≠ 0) : ∃ v, Ending.returned (.iface 55 (.agg #[.string s, .iface 53 (.int .i64 k)])) = .returned v ∧ isFault k' v := ⟨_, rfl, .inr ⟨by rw [h]; exact h0, s, by rw [h]⟩⟩

set_option maxHeartbeats 800000 in
theorem check_any (t p s d : Int) (a : Option Addr) (n cp : Nat) (w : World) :
    Calls Tryd.prog 15 #[.agg #[.int .i64 t, .int .i64 p, .int .i64 s, .int .i64 d, .slice a n cp]] w fun e w' =>
      (∃ v, e = .returned v ∧ isFault (putE t p s d n) v) ∧ Below w.heap.size w w' := by
  have HE1 : Hid (octB t = false → putE t p s d n = 1) := fun h => putE_arg _ _ _ _ _ (by rw [okB_of, h]; simp)
  have HE2 : Hid (octB p = false → putE t p s d n = 1) := fun h => putE_arg _ _ _ _ _ (by rw [okB_of, h]; simp)
  have HE3 : Hid (rightI s = false → putE t p s d n = 1) := fun h => putE_arg _ _ _ _ _ (by rw [okB_of, h]; simp)
  have HE4 : Hid (rightI d = false → putE t p s d n = 1) := fun h => putE_arg _ _ _ _ _ (by rw [okB_of, h]; simp)
  have HE5 : Hid (octB t = true → octB p = true → rightI s = true → rightI d = true → 1024 < n → putE t p s d n = 6) := fun h1 h2 h3 h4 h => putE_long _ _ _ _ _ (by rw [okB_of, h1, h2, h3, h4]; rfl) h
  have HE6 : Hid (octB t = true → octB p = true → rightI s = true → rightI d = true → ¬ 1024 < n → putE t p s d n = 0) := fun h1 h2 h3 h4 h => putE_ok _ _ _ _ _ (by rw [okB_of, h1, h2, h3, h4]; rfl) h
  have HB : Hid (Below w.heap.size w (w.alloc (.cells #[.int .i64 t, .int .i64 p, .int .i64 s, .int .i64 d, .slice a n cp] 24))) := (Below.refl _ _).alloc (Nat.le_refl _) _
  go_enter Tryd.func15, Tryd.ntmps15
  go_wp2_with fail
  refine (octet_any t _).mono ?_
  rintro e w' ⟨rfl, rfl⟩
  cases h1 : octB t with
  | false =>
    go_wp2
    go_ret
    exact ⟨fault_of _ (HE1.out h1) (by decide), HB.out⟩
  | true =>
    go_wp2_with fail
    refine (octet_any p _).mono ?_
    rintro e w' ⟨rfl, rfl⟩
    cases h2 : octB p with
    | false =>
      go_wp2
      go_ret
      exact ⟨fault_of _ (HE2.out h2) (by decide), HB.out⟩
    | true =>
      go_wp2_with fail
      refine (right_any s _).mono ?_
      rintro e w' ⟨rfl, rfl⟩
      cases h3 : rightI s with
      | false =>
        go_wp2
        go_ret
        exact ⟨fault_of _ (HE3.out h3) (by decide), HB.out⟩
      | true =>
        go_wp2_with fail
        refine (right_any d _).mono ?_
        rintro e w' ⟨rfl, rfl⟩
        cases h4 : rightI d with
        | false =>
          go_wp2
          go_ret
          exact ⟨fault_of _ (HE4.out h4) (by decide), HB.out⟩
        | true =>
          by_cases h5 : 1024 < n
          · go_wp2
            go_ret
            exact ⟨fault_of _ (HE5.out h1 h2 h3 h4 h5) (by decide), HB.out⟩
          · go_wp2
            go_ret
            exact ⟨⟨_, rfl, .inl ⟨HE6.out h1 h2 h3 h4 h5, rfl⟩⟩, HB.out⟩
end Go.Proofs.YtknpgpmckabmbaaDoor
