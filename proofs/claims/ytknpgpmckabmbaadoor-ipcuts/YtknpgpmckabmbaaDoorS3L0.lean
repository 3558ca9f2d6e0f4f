/- The statements' own helpers; Put and Get in the form that the statements' walks take. -/
import Derived.Test.YtknpgpmckabmbaaDoorS3W10
import Derived.Test.YtknpgpmckabmbaaDoorS3R2
namespace Go.Proofs.YtknpgpmckabmbaaDoor
open Go.RowKit

theorem below_new' (w : World) (o : Obj) : Below w.heap.size w (w.alloc o) := (Below.refl _ _).alloc (Nat.le_refl _) _
theorem put_ok (t p s d : Int) (a : Option Addr) (cp : Nat) (xs : List Int) (w : World) (hB : Bts w a xs) (hnil : a = none → cp = 0) (hk : putE t p s d xs.length = 0) :
    Calls Tryd.prog 9 #[.agg #[.int .i64 t, .int .i64 p, .int .i64 s, .int .i64 d, .slice a xs.length cp]] w fun e w' =>
      ∃ g cap, e = .returned (.tuple #[.slice (some ⟨g, 0, none⟩) (20 + xs.length) cap, .int .i64 0]) ∧ Owns w' w.heap.size g cap (putB t p s d xs) ∧ Below w.heap.size w w' :=
  put_good t p s d a xs.length cp xs w rfl hB hnil hk (by have := (putE_zero hk).2; omega)
theorem awake_any (w : World) : Calls Tryd.prog 8 #[] w fun e w' => e = .returned (.bool true) ∧ Below w.heap.size w w' := by
  go_enter Tryd.func8, Tryd.ntmps8
  go_wp2_with fail
  refine (put_ok 0 0 0 0 none 0 [] w (.inl rfl) (fun _ => rfl) (by decide)).mono ?_
  rintro e w1 ⟨g, cap, rfl, _, hb⟩
  go_wp2_with fail
  refine (num_any _ _).mono ?_
  rintro e w' ⟨rfl, rfl⟩
  go_wp2
  go_ret
  exact ⟨rfl, hb⟩
def sameB (t p s d : Int) (xs : List Int) (t' p' s' d' : Int) (ys : List Int) : Bool := decide (t = t' ∧ p = p' ∧ s = s' ∧ d = d' ∧ xs = ys)
set_option maxHeartbeats 800000 in
theorem same_any (t p s d t' p' s' d' : Int) (a b : Option Addr) (n m c c' : Nat) (xs ys : List Int) (w : World) (hn : n = xs.length) (hm : m = ys.length) (hx : Bts w a xs) (hy : Bts w b ys) (bx : AreBytes xs) (bY : AreBytes ys) :
    Calls Tryd.prog 14 #[.agg #[.int .i64 t, .int .i64 p, .int .i64 s, .int .i64 d, .slice a n c], .agg #[.int .i64 t', .int .i64 p', .int .i64 s', .int .i64 d', .slice b m c']] w fun e w' =>
      e = .returned (.bool (sameB t p s d xs t' p' s' d' ys)) ∧ Below w.heap.size w w' := by
  have hb : Below w.heap.size w ((w.alloc (.cells #[.int .i64 t, .int .i64 p, .int .i64 s, .int .i64 d, .slice a n c] 24)).alloc (.cells #[.int .i64 t', .int .i64 p', .int .i64 s', .int .i64 d', .slice b m c'] 24)) := below_two_new _ _ _
  have c1 := conv_bts _ a n c xs hn (hx.below hb) bx
  have c2 := conv_bts _ b m c' ys hm (hy.below hb) bY
  have hq := strOf_eq xs ys bx bY
  have HB : Hid (Below w.heap.size w ((w.alloc (.cells #[.int .i64 t, .int .i64 p, .int .i64 s, .int .i64 d, .slice a n c] 24)).alloc (.cells #[.int .i64 t', .int .i64 p', .int .i64 s', .int .i64 d', .slice b m c'] 24))) := hb
  have HS : Hid (sameB t p s d xs t' p' s' d' ys = decide (t = t' ∧ p = p' ∧ s = s' ∧ d = d' ∧ xs = ys)) := rfl
  obtain ⟨q, hq'⟩ : ∃ q, decide (xs = ys) = q := ⟨_, rfl⟩
  rw [hq'] at hq
  have HQ : Hid (decide (xs = ys) = q) := hq'
  generalize sameB t p s d xs t' p' s' d' ys = r at *
  generalize strOf xs = s1 at *
  generalize strOf ys = s2 at *
  clear hb hn hm hx hy bx bY hq'
  by_cases h1 : t = t'
  rotate_left
  · have e1 : (t == t') = false := by simp [h1]
    have HR : Hid (r = false) := HS.out.trans (decide_eq_false fun h => h1 h.1)
    clear HS
    go_enter Tryd.func14, Tryd.ntmps14
    go_wp2
    go_ret
    exact ⟨ret_bool HR.out.symm, HB.out⟩
  by_cases h2 : p = p'
  rotate_left
  · have e2 : (p == p') = false := by simp [h2]
    have HR : Hid (r = false) := HS.out.trans (decide_eq_false fun h => h2 h.2.1)
    subst h1
    clear HS
    go_enter Tryd.func14, Tryd.ntmps14
    go_wp2
    go_ret
    exact ⟨ret_bool HR.out.symm, HB.out⟩
  by_cases h3 : s = s'
  rotate_left
  · have e3 : (s == s') = false := by simp [h3]
    have HR : Hid (r = false) := HS.out.trans (decide_eq_false fun h => h3 h.2.2.1)
    subst h1 h2
    clear HS
    go_enter Tryd.func14, Tryd.ntmps14
    go_wp2
    go_ret
    exact ⟨ret_bool HR.out.symm, HB.out⟩
  by_cases h4 : d = d'
  rotate_left
  · have e4 : (d == d') = false := by simp [h4]
    have HR : Hid (r = false) := HS.out.trans (decide_eq_false fun h => h4 h.2.2.2.1)
    subst h1 h2 h3
    clear HS
    go_enter Tryd.func14, Tryd.ntmps14
    go_wp2
    go_ret
    exact ⟨ret_bool HR.out.symm, HB.out⟩
  have HR : Hid (r = q) := by
    show r = q
    rw [HS.out, ← HQ.out]
    exact decide_eq_decide.2 ⟨fun h => h.2.2.2.2, fun h => ⟨h1, h2, h3, h4, h⟩⟩
  subst h1 h2 h3 h4
  clear HS
  go_enter Tryd.func14, Tryd.ntmps14
  go_wp2
  all_goals go_ret
  all_goals exact ⟨ret_bool HR.out.symm, HB.out⟩
end Go.Proofs.YtknpgpmckabmbaaDoor
