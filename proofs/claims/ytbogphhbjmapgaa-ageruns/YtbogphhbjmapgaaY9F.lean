/- Ages: what may be said of one; whether a head is dead; Keys. -/
import Derived.Test.YtbogphhbjmapgaaY9D
import Derived.Test.YtbogphhbjmapgaaX8A
namespace Go.Proofs.Ytbogphhbjmapgaa
open Go.RowKit
set_option linter.unusedVariables false

def stZ (a : Int) : Int := if a < 1800 then 3 else if a < 3600 then 1 else 0
def deadB (a : Int) : Bool := decide (3600 ≤ a)
def oldB (a : Int) : Bool := decide (1800 ≤ a ∧ a < 3600)
theorem stZ_young {a : Int} (h : a < 1800) : stZ a = 3 := by unfold stZ; rw [if_pos h]
theorem stZ_old {a : Int} (h : ¬ a < 1800) (h2 : a < 3600) : stZ a = 1 := by unfold stZ; rw [if_neg h, if_pos h2]
theorem stZ_dead {a : Int} (h : ¬ a < 3600) : stZ a = 0 := by unfold stZ; rw [if_neg (by omega), if_neg h]
set_option maxHeartbeats 800000 in
theorem state_any (a : Int) (w : World) : Calls Try.prog 48 #[.int .i64 a] w fun e w' => e = .returned (.int .i64 (stZ a)) ∧ w' = w := by
  by_cases h1 : a < 1800
  · rw [stZ_young h1]
    go_enter Try.func48, Try.ntmps48
    go_wp2
    go_ret
    exact ⟨rfl, rfl⟩
  · by_cases h2 : a < 3600
    · rw [stZ_old h1 h2]
      go_enter Try.func48, Try.ntmps48
      go_wp2
      go_ret
      exact ⟨rfl, rfl⟩
    · rw [stZ_dead h2]
      go_enter Try.func48, Try.ntmps48
      go_wp2
      go_ret
      exact ⟨rfl, rfl⟩
theorem state_at (a v : Int) (h : stZ a = v) (w : World) : Calls Try.prog 48 #[.int .i64 a] w fun e w' => e = .returned (.int .i64 v) ∧ w' = w := by subst h; exact state_any a w
theorem ret_b {a b : Bool} (h : a = b) : Ending.returned (.bool a) = .returned (.bool b) := by rw [h]
set_option maxHeartbeats 800000 in
theorem isDead_any (h : HeadZ) (w : World) : Calls Try.prog 43 #[.agg (headA h)] w fun e w' => e = .returned (.bool (deadB h.age)) ∧ Below w.heap.size w w' := by
  have HB : Hid (Below w.heap.size w (w.alloc (.cells (headA h) 37))) := below_new' _ _
  obtain ⟨v, hv, hd⟩ : ∃ v, stZ h.age = v ∧ ((v = 3 ∧ deadB h.age = false) ∨ (v = 1 ∧ deadB h.age = false) ∨ (v = 0 ∧ deadB h.age = true)) := by
    refine ⟨_, rfl, ?_⟩
    unfold stZ deadB
    by_cases h1 : h.age < 1800
    · rw [if_pos h1]; exact .inl ⟨rfl, by simp; omega⟩
    · by_cases h2 : h.age < 3600
      · rw [if_neg h1, if_pos h2]; exact .inr (.inl ⟨rfl, by simp; omega⟩)
      · rw [if_neg h1, if_neg h2]; exact .inr (.inr ⟨rfl, by simp; omega⟩)
  have CS := fun W => state_at h.age v hv W
  rcases hd with ⟨rfl, hd⟩ | ⟨rfl, hd⟩ | ⟨rfl, hd⟩ <;> rw [hd] <;> clear hd
  all_goals
    go_enter Try.func43, Try.ntmps43
    go_wp2_with fail
    refine (CS _).mono ?_
    rintro e w' ⟨rfl, rfl⟩
    go_wp2
    go_ret
    first | exact ⟨rfl, HB.out⟩ | exact ⟨ret_b (by decide), HB.out⟩
set_option maxHeartbeats 800000 in
theorem akey_any (h : HeadZ) (w : World) :
    Calls Try.prog 45 #[.agg (headA h)] w fun e w' => e = .returned (.agg (keyA h)) ∧ Below w.heap.size w w' := by
  have HB : Hid (Below w.heap.size w ((w.alloc (.cells (headA h) 37)).alloc (.cells (keyA h) 25))) := (below_new' _ _).alloc (by simp) _
  go_enter Try.func45, Try.ntmps45
  go_wp2
  refine bodyPost_ret (by simp [results, Try.results45, go_sem]; try rfl) rfl ?_
  exact ⟨rfl, HB.out⟩
end Go.Proofs.Ytbogphhbjmapgaa
/- Ages in plain data: an advertisement with another Age; a database that is ticked. -/
namespace Go.Proofs.Ytbogphhbjmapgaa
open Go.RowKit
set_option linter.unusedVariables false

def ageL (l : LsaZ) (a : Int) : LsaZ := withHead l { l.head with age := a }
theorem ageL_age (l : LsaZ) (a : Int) : (ageL l a).head.age = a := rfl
theorem ageL_key (l : LsaZ) (a : Int) : keyZ (ageL l a).head = keyZ l.head := rfl
theorem ageL_ageL (l : LsaZ) (a c : Int) : ageL (ageL l a) c = ageL l c := rfl
theorem ageL_self (l : LsaZ) : ageL l l.head.age = l := rfl
theorem ageL_like (l : LsaZ) (a : Int) : Like { l.head with age := a } l.head := ⟨rfl, rfl, rfl, rfl⟩
theorem ageL_sealed {l : LsaZ} {a : Int} (h : sealedB l = true) (h0 : 0 ≤ a) (h1 : a ≤ 3600) : sealedB (ageL l a) = true := by
  unfold sealedB at h ⊢
  rw [Bool.and_eq_true] at h
  obtain ⟨e1, e2⟩ := seal_like l _ (ageL_like l a)
  have hr : rightLsaB (ageL l a) = true := right_like l _ (ageL_like l a) (by unfold amongB; simp; omega) h.1
  rw [hr]
  unfold ageL
  rw [e1, e2]
  exact h.2
theorem ageL_mid {l : LsaZ} {a : Int} (h : Mid l) : Mid (ageL l a) := ⟨h.hl, h.hr, h.hv⟩
theorem ageL_held {w : World} {s : Seats} {l : LsaZ} {a : Int} (h : Held w s l) : Held w s (ageL l a) := ⟨h.hl, h.hr, h.hv⟩
/-- A tick more, and another Age of MaxAge, is not older. -/
theorem newI_tick {a s m : Int} (h : a < 3600) : ¬ 0 < newI a s m (a + 1) s m := by
  by_cases h2 : a + 1 < 3600
  · have e : endZ a = endZ (a + 1) := by unfold endZ; rw [if_neg (by omega), if_neg (by omega)]
    rw [newI_same _ _ _ _ e, if_neg (by unfold apZ; split <;> omega)]; omega
  · rw [newI_em _ _ _ _ (by omega) (by omega)]; omega
theorem newI_kill {a s m : Int} (h : a < 3600) : ¬ 0 < newI a s m 3600 s m := by
  rw [newI_em _ _ _ _ (by omega) (by omega)]; omega
/-- What a tick makes of one. -/
def upL (l : LsaZ) : LsaZ := if l.head.age < 3600 then ageL l (l.head.age + 1) else l
theorem upL_key (l : LsaZ) : keyZ (upL l).head = keyZ l.head := by unfold upL; split <;> rfl
def keyC (k : KeyZ) : List Value := (keyV k).toList
/-- The Keys of those that die at a tick; of those that are dead; of those of adv that are old. -/
def diesB (l : LsaZ) : Bool := l.head.age == 3599
def keysOf (p : HeadZ → Bool) (l : List HeadZ) : List KeyZ := (l.filter p).map keyZ
theorem posZ_self {L : List Row} (h : Rising L) (i : Nat) (hi : i < L.length) : posZ L (rk L[i]) = i :=
  posZ_is L _ i (Nat.le_of_lt hi) (fun j hj hji => rising_lt h j i hji hi) (fun _ => by rw [agZ_self]; omega)
theorem keysOf_take (p : HeadZ → Bool) (l : List HeadZ) (i : Nat) (hi : i < l.length) : keysOf p (l.take (i + 1)) = keysOf p (l.take i) ++ (if p l[i] then [keyZ l[i]] else []) := by
  unfold keysOf
  rw [← List.take_append_getElem hi, List.filter_append, List.map_append]
  congr 1
  by_cases h : p l[i] <;> simp [h]
theorem keysOf_len (p : HeadZ → Bool) (l : List HeadZ) : (keysOf p l).length ≤ l.length := by
  unfold keysOf; rw [List.length_map]; exact List.length_filter_le _ _
end Go.Proofs.Ytbogphhbjmapgaa
