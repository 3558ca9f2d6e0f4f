/- The document's Put. -/
import Derived.Test.YtknpgpmckabmbaaDoorS3W6
namespace Go.Proofs.YtknpgpmckabmbaaDoor
open Go.RowKit

theorem octB_false (t : Int) : octB t = false ↔ t < 0 ∨ 255 < t := by unfold octB; simp; omega
theorem octB_true (t : Int) : octB t = true ↔ 0 ≤ t ∧ t ≤ 255 := by unfold octB; simp
theorem rret_arg {k k' : Int} {w w' : World} (h : k = k') (hb : Below w.heap.size w w') : Ending.returned (.tuple #[.slice none 0 0, .int .i64 k']) = .returned (.tuple #[.slice none 0 0, .int .i64 k]) ∧ Below w.heap.size w w' := by subst h; exact ⟨rfl, hb⟩

set_option maxHeartbeats 1600000 in
theorem rput_bad (t p s d : Int) (a : Option Addr) (n cp : Nat) (w : World) (h0 : putE t p s d n ≠ 0) :
    Calls Tryd.prog 10 #[.agg #[.int .i64 t, .int .i64 p, .int .i64 s, .int .i64 d, .slice a n cp]] w fun e w' =>
      e = .returned (.tuple #[.slice none 0 0, .int .i64 (putE t p s d n)]) ∧ Below w.heap.size w w' := by
  have HB : Hid (Below w.heap.size w (w.alloc (.cells #[.int .i64 t, .int .i64 p, .int .i64 s, .int .i64 d, .slice a n cp] 24))) := (Below.refl _ _).alloc (Nat.le_refl _) _
  have HP : Hid (okB t p s d = false → putE t p s d n = 1) := putE_arg t p s d n
  have HL : Hid (okB t p s d = true → 1024 < n → putE t p s d n = 6) := putE_long t p s d n
  have HG : Hid (okB t p s d = true → ¬ 1024 < n → False) := fun h hn => h0 (putE_ok t p s d n h hn)
  have HK : Hid (okB t p s d = (octB t && octB p && rightI s && rightI d)) := okB_of t p s d
  clear h0
  generalize putE t p s d n = k at *
  generalize okB t p s d = o at *
  by_cases h1 : t < 0
  · have H1 : Hid (k = 1) := HP.out (by rw [HK.out, (octB_false t).2 (.inl h1)]; simp)
    go_enter Tryd.func10, Tryd.ntmps10
    go_wp2
    go_ret2
    exact rret_arg H1.out HB.out
  by_cases h2 : 255 < t
  · have H1 : Hid (k = 1) := HP.out (by rw [HK.out, (octB_false t).2 (.inr h2)]; simp)
    go_enter Tryd.func10, Tryd.ntmps10
    go_wp2
    go_ret2
    exact rret_arg H1.out HB.out
  by_cases h3 : p < 0
  · have H1 : Hid (k = 1) := HP.out (by rw [HK.out, (octB_false p).2 (.inl h3)]; simp)
    go_enter Tryd.func10, Tryd.ntmps10
    go_wp2
    go_ret2
    exact rret_arg H1.out HB.out
  by_cases h4 : 255 < p
  · have H1 : Hid (k = 1) := HP.out (by rw [HK.out, (octB_false p).2 (.inr h4)]; simp)
    go_enter Tryd.func10, Tryd.ntmps10
    go_wp2
    go_ret2
    exact rret_arg H1.out HB.out
  have HK2 : Hid (o = (rightI s && rightI d)) := by show _ = _; rw [HK.out, (octB_true t).2 (by omega), (octB_true p).2 (by omega)]; simp
  clear HK
  go_enter Tryd.func10, Tryd.ntmps10
  go_wp2_with fail
  refine (rright_any s _).mono ?_
  rintro e w' ⟨rfl, rfl⟩
  cases h5 : rightI s with
  | false =>
    have H1 : Hid (k = 1) := HP.out (by rw [HK2.out, h5]; rfl)
    go_wp2
    go_ret2
    exact rret_arg H1.out HB.out
  | true =>
    go_wp2_with fail
    refine (rright_any d _).mono ?_
    rintro e w' ⟨rfl, rfl⟩
    cases h6 : rightI d with
    | false =>
      have H1 : Hid (k = 1) := HP.out (by rw [HK2.out, h5, h6]; rfl)
      go_wp2
      go_ret2
      exact rret_arg H1.out HB.out
    | true =>
      have ho : o = true := by rw [HK2.out, h5, h6]; rfl
      by_cases h7 : 1024 < n
      · have H1 : Hid (k = 6) := HL.out ho h7
        clear ho
        go_wp2
        go_ret2
        exact rret_arg H1.out HB.out
      · exact (HG.out ho h7).elim

theorem rinet_at (a : Option Addr) (m cap : Nat) (zs : List Int) (w : World) (hm : m = zs.length) (hB : Bts w a zs) (hz : AreBytes zs) (hl : zs.length ≤ 140737488355328) :
    Calls Tryd.prog 20 #[.slice a m cap] w fun e w' => e = .returned (.int .i64 (inetZ zs)) ∧ w' = w := by subst hm; exact rinet_any a cap zs w hB hz hl
theorem Bts.left {w : World} {a : Option Addr} {xs ys : List Int} (h : Bts w a (xs ++ ys)) : Bts w a xs := by
  rcases h with h | ⟨b, off, rfl, hc⟩
  · exact .inl (List.append_eq_nil_iff.1 h).1
  · refine .inr ⟨b, off, rfl, fun i hi => ?_⟩
    rw [hc i (by simp; omega)]
    simp [List.getD_eq_getElem?_getD, List.getElem?_append_left hi]

theorem cap20 {w : World} {base g cap : Nat} {t p s d n c : Int} {xs : List Int} (h : Owns w base g cap (headZ t p s d n c ++ xs)) : (20 : Int) ≤ (cap : Int) := by
  have := h.cap
  rw [List.length_append, headZ_length] at this
  omega
set_option maxHeartbeats 1600000 in
theorem rput_good (t p s d : Int) (a : Option Addr) (n cp : Nat) (xs : List Int) (w : World) (hm : n = xs.length) (hB : Bts w a xs) (hnil : a = none → cp = 0) (hk : putE t p s d n = 0) (hn : n ≤ 1024) :
    Calls Tryd.prog 10 #[.agg #[.int .i64 t, .int .i64 p, .int .i64 s, .int .i64 d, .slice a n cp]] w fun e w' =>
      ∃ g cap, e = .returned (.tuple #[.slice (some ⟨g, 0, none⟩) (20 + n) cap, .int .i64 0]) ∧ Owns w' w.heap.size g cap (ipZ t p s d n ++ xs) ∧ Below w.heap.size w w' := by
  have hok : octB t = true ∧ octB p = true ∧ rightI s = true ∧ rightI d = true := by
    cases h : okB t p s d with
    | false => rw [putE_arg t p s d n h] at hk; cases hk
    | true => rw [okB_of] at h; simpa [and_assoc] using h
  have HM : Hid (n = xs.length) := hm
  have HN : Hid (a = none → cp = 0) := hnil
  have HBt : Hid (Bts w a xs) := hB
  have b1 := (octB_true t).1 hok.1
  have b2 := (octB_true p).1 hok.2.1
  have r1 := hok.2.2.1
  have r2 := hok.2.2.2
  clear hm hnil hB hk hok
  go_enter Tryd.func10, Tryd.ntmps10
  go_wp2_with fail
  refine (rright_any s _).mono ?_
  rintro e w' ⟨rfl, rfl⟩
  rw [r1]
  go_wp2_with fail
  refine (rright_any d _).mono ?_
  rintro e w' ⟨rfl, rfl⟩
  rw [r2]
  go_upto_region 5 with fail
  obtain ⟨x0, x1, x2, x3, x4⟩ := box_new w t p s d (.slice a n cp)
  have hB0 : Below w.heap.size w (w.alloc (.cells #[.int .i64 t, .int .i64 p, .int .i64 s, .int .i64 d, .slice a n cp] 24)) := (Below.refl _ _).alloc (Nat.le_refl _) _
  generalize w.alloc (.cells #[.int .i64 t, .int .i64 p, .int .i64 s, .int .i64 d, .slice a n cp] 24) = W at *
  have hBd : Below w.heap.size w W.drew := hB0.drew
  have hlt : w.heap.size < W.drew.heap.size := by
    show w.heap.size < W.heap.size
    rcases Nat.lt_or_ge w.heap.size W.heap.size with h | h
    · exact h
    · simp [World.cell?, Array.getElem?_eq_none h] at x0
  go_region_held3 (fun w' => w'.cell? ⟨w.heap.size, 0, none⟩ = some (.int .i64 t) ∧ w'.cell? ⟨w.heap.size, 1, none⟩ = some (.int .i64 p) ∧ w'.cell? ⟨w.heap.size, 2, none⟩ = some (.int .i64 s) ∧ w'.cell? ⟨w.heap.size, 3, none⟩ = some (.int .i64 d) ∧ w'.cell? ⟨w.heap.size, 4, none⟩ = some (.slice a n cp)) (first | exact keep_cells (by assumption) hk (by omega) | go_keep)
    (first | (go_at_call 19; refine (rip_any t p s d _ a n cp xs _ HM.out (HBt.out.below hBd) HN.out (by omega)).mono ?_; rintro e w' ⟨g, cap, rfl, ho, hk⟩; have hc : (20 : Int) ≤ (cap : Int) := cap20 ho; have hBd := below_more hBd hk (by omega); have hs := hk.size) | (go_at_call 20; refine (rinet_at _ _ _ (headZ t p s d n 0) _ (by rfl) ho.bts.left (headZ_bd _ _ _ _ _ _) (by simp [headZ_length])).mono ?_; rintro e w' ⟨rfl, rfl⟩))
  have HR : Hid (Owns w' w.heap.size g cap (ipZ t p s d n ++ xs) ∧ Below w.heap.size w w') := ⟨ho.base (by omega), hBd⟩
  clear ho hk hBd hB0 hc hs
  go_wp2
  go_ret2
  exact ⟨_, _, rfl, HR.out⟩
end Go.Proofs.YtknpgpmckabmbaaDoor
