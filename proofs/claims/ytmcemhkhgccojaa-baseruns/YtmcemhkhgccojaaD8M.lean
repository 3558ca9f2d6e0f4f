/- Two databases in one world, the program's and the document's, with room for most; what is put into both. -/
import Derived.Test.YtmcemhkhgccojaaD8C
namespace Go.Proofs.Ytmcemhkhgccojaa
open Go.RowKit
set_option linter.unusedVariables false

def sZ : Seats := ⟨none, 0, none, 0, none, 0⟩
def asRows (Z : List LsaZ) : List Row := Z.map fun l => (sZ, l)
theorem as_map (L : List Row) : asRows (L.map fun r => r.2) = L.map fun r => (sZ, r.2) := by unfold asRows; rw [List.map_map]; rfl
theorem posZ_as (L : List Row) (k : KeyZ) : posZ (asRows (L.map fun r => r.2)) k = posZ L k := by
  rw [as_map]
  induction L with
  | nil => rfl
  | cons r L ih =>
    have e : rk (sZ, r.2) = rk r := rfl
    simp only [List.map_cons, posZ, e, ih]
theorem there_as (L : List Row) (k : KeyZ) : thereB (asRows (L.map fun r => r.2)) k = thereB L k := by
  unfold thereB
  rw [posZ_as, as_map, List.getElem?_map]
  cases L[posZ L k]? <;> rfl
/-- What Put leaves, and how it ends, in plain data. -/
def dbZ (most : Int) (Z : List LsaZ) (l : LsaZ) : List LsaZ :=
  if sealedB l = true then
    if thereB (asRows Z) (keyZ l.head) = true then
      match Z[posZ (asRows Z) (keyZ l.head)]? with
      | some r => if 0 < newI r.head.age r.head.seq r.head.sum l.head.age l.head.seq l.head.sum then Z else Z.set (posZ (asRows Z) (keyZ l.head)) l
      | none => Z
    else if most ≤ (Z.length : Int) then Z else Z.take (posZ (asRows Z) (keyZ l.head)) ++ l :: Z.drop (posZ (asRows Z) (keyZ l.head))
  else Z
def dbE (most : Int) (Z : List LsaZ) (l : LsaZ) : Int :=
  if sealedB l = true then
    if thereB (asRows Z) (keyZ l.head) = true then
      match Z[posZ (asRows Z) (keyZ l.head)]? with
      | some r => if 0 < newI r.head.age r.head.seq r.head.sum l.head.age l.head.seq l.head.sum then 9 else 0
      | none => 0
    else if most ≤ (Z.length : Int) then 8 else 0
  else 1
section
variable {most : Int} {L : List Row} {l : LsaZ}
theorem dbZ_bad (hs : sealedB l = false) : dbZ most (L.map fun r => r.2) l = L.map fun r => r.2 := by unfold dbZ; rw [if_neg (by rw [hs]; simp)]
theorem dbE_bad (hs : sealedB l = false) : dbE most (L.map fun r => r.2) l = 1 := by unfold dbE; rw [if_neg (by rw [hs]; simp)]
theorem at_as (hp : posZ L (keyZ l.head) < L.length) : (L.map fun r => r.2)[posZ L (keyZ l.head)]? = some (L[posZ L (keyZ l.head)]).2 := by rw [List.getElem?_map, List.getElem?_eq_getElem hp]; rfl
theorem dbZ_old (hs : sealedB l = true) (ht : thereB L (keyZ l.head) = true) (hp : posZ L (keyZ l.head) < L.length) (hc : 0 < newI (L[posZ L (keyZ l.head)]).2.head.age (L[posZ L (keyZ l.head)]).2.head.seq (L[posZ L (keyZ l.head)]).2.head.sum l.head.age l.head.seq l.head.sum) : dbZ most (L.map fun r => r.2) l = L.map fun r => r.2 := by
  unfold dbZ
  rw [if_pos hs, there_as, if_pos ht, posZ_as, at_as hp]
  simp only [if_pos hc]
theorem dbE_old (hs : sealedB l = true) (ht : thereB L (keyZ l.head) = true) (hp : posZ L (keyZ l.head) < L.length) (hc : 0 < newI (L[posZ L (keyZ l.head)]).2.head.age (L[posZ L (keyZ l.head)]).2.head.seq (L[posZ L (keyZ l.head)]).2.head.sum l.head.age l.head.seq l.head.sum) : dbE most (L.map fun r => r.2) l = 9 := by
  unfold dbE
  rw [if_pos hs, there_as, if_pos ht, posZ_as, at_as hp]
  simp only [if_pos hc]
theorem dbZ_set (hs : sealedB l = true) (ht : thereB L (keyZ l.head) = true) (hp : posZ L (keyZ l.head) < L.length) (hc : ¬ 0 < newI (L[posZ L (keyZ l.head)]).2.head.age (L[posZ L (keyZ l.head)]).2.head.seq (L[posZ L (keyZ l.head)]).2.head.sum l.head.age l.head.seq l.head.sum) (s' : Seats) : dbZ most (L.map fun r => r.2) l = (L.set (posZ L (keyZ l.head)) (s', l)).map fun r => r.2 := by
  unfold dbZ
  rw [if_pos hs, there_as, if_pos ht, posZ_as, at_as hp]
  simp only [if_neg hc, List.map_set]
theorem dbE_set (hs : sealedB l = true) (ht : thereB L (keyZ l.head) = true) (hp : posZ L (keyZ l.head) < L.length) (hc : ¬ 0 < newI (L[posZ L (keyZ l.head)]).2.head.age (L[posZ L (keyZ l.head)]).2.head.seq (L[posZ L (keyZ l.head)]).2.head.sum l.head.age l.head.seq l.head.sum) : dbE most (L.map fun r => r.2) l = 0 := by
  unfold dbE
  rw [if_pos hs, there_as, if_pos ht, posZ_as, at_as hp]
  simp only [if_neg hc]
theorem dbZ_full (hs : sealedB l = true) (ht : thereB L (keyZ l.head) = false) (hf : most ≤ (L.length : Int)) : dbZ most (L.map fun r => r.2) l = L.map fun r => r.2 := by
  unfold dbZ
  rw [if_pos hs, there_as, if_neg (by rw [ht]; simp), if_pos (by rw [List.length_map]; exact hf)]
theorem dbE_full (hs : sealedB l = true) (ht : thereB L (keyZ l.head) = false) (hf : most ≤ (L.length : Int)) : dbE most (L.map fun r => r.2) l = 8 := by
  unfold dbE
  rw [if_pos hs, there_as, if_neg (by rw [ht]; simp), if_pos (by rw [List.length_map]; exact hf)]
theorem dbZ_ins (hs : sealedB l = true) (ht : thereB L (keyZ l.head) = false) (hf : ¬ most ≤ (L.length : Int)) (s' : Seats) : dbZ most (L.map fun r => r.2) l = (insL L (posZ L (keyZ l.head)) (s', l)).map fun r => r.2 := by
  unfold dbZ
  rw [if_pos hs, there_as, if_neg (by rw [ht]; simp), if_neg (by rw [List.length_map]; exact hf), posZ_as]
  unfold insL
  rw [List.map_append, List.map_cons, List.map_take, List.map_drop]
theorem dbE_ins (hs : sealedB l = true) (ht : thereB L (keyZ l.head) = false) (hf : ¬ most ≤ (L.length : Int)) : dbE most (L.map fun r => r.2) l = 0 := by
  unfold dbE
  rw [if_pos hs, there_as, if_neg (by rw [ht]; simp), if_neg (by rw [List.length_map]; exact hf)]
end
/-- How a call ends that turns a database. -/
def StepEnd (w : World) (N b : Nat) (most : Int) (lv : Value) (L : List Row) (k : Int) (Z : List LsaZ) (e : Ending) (w' : World) : Prop := e = .returned (.int .i64 k) ∧ ∃ lv' L', Keeps w' N b most lv' L' ∧ (L'.map fun r => r.2) = Z ∧ Turned b lv.ownBlock w w' ∧ Still w lv lv' L L'
theorem put_step (N b : Nat) (most : Int) (hm : most ≤ 512) (lv : Value) (L : List Row) (s : Seats) (l : LsaZ) (w : World) (h : Keeps w N b most lv L) (hH : Held w s l) (hf : Mid l) (hN : Nils s) (hNw : N ≤ w.heap.size) :
    Calls Try.prog 10 #[.pointer (some ⟨b, 0, none⟩), .agg (lsaA s l)] w (StepEnd w N b most lv L (dbE most (L.map fun r => r.2) l) (dbZ most (L.map fun r => r.2) l)) := by
  have hln := h.len
  cases hs : sealedB l with
  | false =>
    refine (put_bad N b most lv L s l w h hH hf hN hs).mono ?_
    rintro e w' ⟨rfl, hb⟩
    exact ⟨by rw [dbE_bad hs], lv, L, h.below hb, (dbZ_bad hs).symm, Turned.of b _ hb, Still.refl _ _ _⟩
  | true =>
    cases ht : thereB L (keyZ l.head) with
    | true =>
      obtain ⟨hp, hk⟩ := thereB_yes ht
      by_cases hc : 0 < newI (L[posZ L (keyZ l.head)]).2.head.age (L[posZ L (keyZ l.head)]).2.head.seq (L[posZ L (keyZ l.head)]).2.head.sum l.head.age l.head.seq l.head.sum
      · refine (put_old N b most lv L s l w h hH hf hN _ _ rfl (List.getElem?_eq_getElem hp) hk hs hc).mono ?_
        rintro e w' ⟨rfl, hb⟩
        exact ⟨by rw [dbE_old hs ht hp hc], lv, L, h.below hb, (dbZ_old hs ht hp hc).symm, Turned.of b _ hb, Still.refl _ _ _⟩
      · refine (put_set0 N b most lv L s l w h hH hf hN _ _ rfl (List.getElem?_eq_getElem hp) hk hs hc).mono ?_
        rintro e w' ⟨s', rfl, h1, h2, h3⟩
        exact ⟨by rw [dbE_set hs ht hp hc], lv, _, h1, (dbZ_set hs ht hp hc s').symm, h2, still_set h3⟩
    | false =>
      by_cases hfu : most ≤ (L.length : Int)
      · refine (put_full N b most lv L s l w h hH hf hN hs ht (by omega)).mono ?_
        rintro e w' ⟨rfl, hb⟩
        exact ⟨by rw [dbE_full hs ht hfu], lv, L, h.below hb, (dbZ_full hs ht hfu).symm, Turned.of b _ hb, Still.refl _ _ _⟩
      · refine (put_ins0 N b most lv L s l w h hH hf hN hNw hs ht (by omega) (by omega) (insOk_any L _ (posZ_le L _))).mono ?_
        rintro e w' ⟨lv', s', rfl, h1, h2, h3, h4⟩
        exact ⟨by rw [dbE_ins hs ht hfu], lv', _, h1, (dbZ_ins hs ht hfu s').symm, h2, still_ins h3 h4⟩
theorem dput_step (N b : Nat) (most : Int) (hm : most ≤ 512) (lv : Value) (L : List Row) (s : Seats) (l : LsaZ) (w : World) (h : Keeps w N b most lv L) (hH : Held w s l) (hf : Mid l) (hN : Nils s) (hNw : N ≤ w.heap.size) (hob : Off b (s, l)) (hog : ∀ k, lv.ownBlock = some k → Off k (s, l)) :
    Calls Try.prog 12 #[.pointer (some ⟨b, 0, none⟩), .agg (lsaA s l)] w (StepEnd w N b most lv L (dbE most (L.map fun r => r.2) l) (dbZ most (L.map fun r => r.2) l)) := by
  have hln := h.len
  cases hs : sealedB l with
  | false =>
    refine (dput_bad N b most lv L s l w h hH hf hN hs).mono ?_
    rintro e w' ⟨rfl, hb⟩
    exact ⟨by rw [dbE_bad hs], lv, L, h.below hb, (dbZ_bad hs).symm, Turned.of b _ hb, Still.refl _ _ _⟩
  | true =>
    cases ht : thereB L (keyZ l.head) with
    | true =>
      obtain ⟨hp, hk⟩ := thereB_yes ht
      by_cases hc : 0 < newI (L[posZ L (keyZ l.head)]).2.head.age (L[posZ L (keyZ l.head)]).2.head.seq (L[posZ L (keyZ l.head)]).2.head.sum l.head.age l.head.seq l.head.sum
      · refine (dput_old N b most lv L s l w h hH hf hN _ _ rfl (List.getElem?_eq_getElem hp) hk hs hc).mono ?_
        rintro e w' ⟨rfl, hb⟩
        exact ⟨by rw [dbE_old hs ht hp hc], lv, L, h.below hb, (dbZ_old hs ht hp hc).symm, Turned.of b _ hb, Still.refl _ _ _⟩
      · refine (dput_set N b most lv L s l w h hH hf hN _ _ rfl (List.getElem?_eq_getElem hp) hk hs hc).mono ?_
        rintro e w' ⟨s', rfl, h1, h2, h3⟩
        exact ⟨by rw [dbE_set hs ht hp hc], lv, _, h1, (dbZ_set hs ht hp hc s').symm, h2, still_set h3⟩
    | false =>
      by_cases hfu : most ≤ (L.length : Int)
      · refine (dput_full N b most lv L s l w h hH hf hN hs ht (by omega)).mono ?_
        rintro e w' ⟨rfl, hb⟩
        exact ⟨by rw [dbE_full hs ht hfu], lv, L, h.below hb, (dbZ_full hs ht hfu).symm, Turned.of b _ hb, Still.refl _ _ _⟩
      · refine (dput_ins N b most lv L s l w h hH hf hN hob hog hNw hs ht (by omega) (by omega) ).mono ?_
        rintro e w' ⟨lv', s', rfl, h1, h2, h3, h4⟩
        exact ⟨by rw [dbE_ins hs ht hfu], lv', _, h1, (dbZ_ins hs ht hfu s').symm, h2, still_ins h3 h4⟩
/-- Each is clear of the other. -/
def Apart (b1 : Nat) (lv1 : Value) (L1 : List Row) (b2 : Nat) (lv2 : Value) (L2 : List Row) : Prop := (Clear b2 b1 lv1 L1 ∧ ∀ k, lv2.ownBlock = some k → Clear k b1 lv1 L1) ∧ (Clear b1 b2 lv2 L2 ∧ ∀ k, lv1.ownBlock = some k → Clear k b2 lv2 L2)
theorem Apart.swap {b1 b2 : Nat} {lv1 lv2 : Value} {L1 L2 : List Row} (h : Apart b1 lv1 L1 b2 lv2 L2) : Apart b2 lv2 L2 b1 lv1 L1 := ⟨h.2, h.1⟩
/-- The one turns: the other one stays, and they are apart still. -/
theorem Apart.turn {w w' : World} {N b1 b2 : Nat} {m1 m2 : Int} {lv1 lv1' lv2 : Value} {L1 L1' L2 : List Row} (h : Apart b1 lv1 L1 b2 lv2 L2) (h1 : Keeps w N b1 m1 lv1 L1) (h2 : Keeps w N b2 m2 lv2 L2) (ht : Turned b1 lv1.ownBlock w w') (hs : Still w lv1 lv1' L1 L1') :
    Keeps w' N b2 m2 lv2 L2 ∧ Apart b1 lv1' L1' b2 lv2 L2 := by
  refine ⟨h2.other ht h.2.1 h.2.2, ⟨hs.clear h2.obj.lt h.1.1, fun k hk => hs.clear (h2.own_lt k hk) (h.1.2 k hk)⟩, h.2.1, fun k hk => ?_⟩
  rcases hs.1 with e | e
  · exact h.2.2 k (by rw [← e]; exact hk)
  · exact h2.clear_new (e k hk)
theorem apart_new {w : World} {N b1 : Nat} {m1 m2 : Int} {lv1 : Value} {L1 : List Row} (t : TypeId) (h1 : Keeps w N b1 m1 lv1 L1) : Apart b1 lv1 L1 w.heap.size (.slice none 0 0) [] :=
  ⟨⟨h1.clear_new (Nat.le_refl _), fun k hk => by simp [Value.ownBlock] at hk⟩, ⟨by have := h1.obj.lt; omega, by simp [Value.ownBlock], fun r hr => by simp at hr⟩, fun k hk => ⟨by have := h1.own_lt k hk; omega, by simp [Value.ownBlock], fun r hr => by simp at hr⟩⟩
end Go.Proofs.Ytmcemhkhgccojaa
