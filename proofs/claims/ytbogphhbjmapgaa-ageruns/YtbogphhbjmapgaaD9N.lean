/- Kill on both; small laws. -/
import Derived.Test.YtbogphhbjmapgaaD9M
namespace Go.Proofs.Ytbogphhbjmapgaa
open Go.RowKit
set_option linter.unusedVariables false

def killB (Z : List LsaZ) (k : KeyZ) : Bool :=
  if thereB (asRows Z) k = true then
    match Z[posZ (asRows Z) k]? with
    | some r => decide (r.head.age < 3600)
    | none => false
  else false
def killZ (Z : List LsaZ) (k : KeyZ) : List LsaZ :=
  if thereB (asRows Z) k = true then
    match Z[posZ (asRows Z) k]? with
    | some r => if r.head.age < 3600 then Z.set (posZ (asRows Z) k) (ageL r 3600) else Z
    | none => Z
  else Z
section
variable {L : List Row} {k : KeyZ}
theorem at_as' (hp : posZ L k < L.length) : (L.map fun r => r.2)[posZ L k]? = some (L[posZ L k]).2 := by rw [List.getElem?_map, List.getElem?_eq_getElem hp]; rfl
theorem killB_none (ht : thereB L k = false) : killB (L.map fun r => r.2) k = false := by unfold killB; rw [there_as, if_neg (by rw [ht]; simp)]
theorem killZ_none (ht : thereB L k = false) : killZ (L.map fun r => r.2) k = L.map fun r => r.2 := by unfold killZ; rw [there_as, if_neg (by rw [ht]; simp)]
theorem killB_yes (ht : thereB L k = true) (hp : posZ L k < L.length) (ha : (L[posZ L k]).2.head.age < 3600) : killB (L.map fun r => r.2) k = true := by
  unfold killB; rw [there_as, if_pos ht, posZ_as, at_as' hp]; simp [ha]
theorem killZ_yes (ht : thereB L k = true) (hp : posZ L k < L.length) (ha : (L[posZ L k]).2.head.age < 3600) (s' : Seats) : killZ (L.map fun r => r.2) k = (L.set (posZ L k) (s', ageL (L[posZ L k]).2 3600)).map fun r => r.2 := by
  unfold killZ; rw [there_as, if_pos ht, posZ_as, at_as' hp]; simp only [if_pos ha, List.map_set]
theorem killB_dead (ht : thereB L k = true) (hp : posZ L k < L.length) (ha : ¬ (L[posZ L k]).2.head.age < 3600) : killB (L.map fun r => r.2) k = false := by
  unfold killB; rw [there_as, if_pos ht, posZ_as, at_as' hp]; simp [ha]
theorem killZ_dead (ht : thereB L k = true) (hp : posZ L k < L.length) (ha : ¬ (L[posZ L k]).2.head.age < 3600) : killZ (L.map fun r => r.2) k = L.map fun r => r.2 := by
  unfold killZ; rw [there_as, if_pos ht, posZ_as, at_as' hp]; simp only [if_neg ha]
end
/-- How a call ends that turns a database, and tells a truth. -/
def BoolEnd (w : World) (N b : Nat) (lv : Value) (L : List Row) (k : Bool) (Z : List LsaZ) (e : Ending) (w' : World) : Prop := e = .returned (.bool k) ∧ ∃ lv' L', Keeps w' N b 100 lv' L' ∧ (L'.map fun r => r.2) = Z ∧ Turned b lv.ownBlock w w' ∧ Still w lv lv' L L'
theorem kill_step (N b : Nat) (lv : Value) (L : List Row) (k : KeyZ) (w : World) (h : Keeps w N b 100 lv L) :
    Calls Try.prog 19 #[.pointer (some ⟨b, 0, none⟩), .agg (keyV k)] w (BoolEnd w N b lv L (killB (L.map fun r => r.2) k) (killZ (L.map fun r => r.2) k)) := by
  cases ht : thereB L k with
  | false =>
    refine (kill_none (some ⟨b, 0, none⟩) k w (fun X hX => get_no N b 100 lv L k X (h.below hX) ht)).mono ?_
    rintro e w' ⟨rfl, hb⟩
    exact ⟨by rw [killB_none ht], lv, L, h.below hb, (killZ_none ht).symm, Turned.of b _ hb, Still.refl _ _ _⟩
  | true =>
    obtain ⟨hp, hk⟩ := thereB_yes ht
    refine (kill_there N b 100 lv L k w h ht _ (List.getElem?_eq_getElem hp)).mono ?_
    rintro e w' ⟨h1, h2⟩
    by_cases ha : (L[posZ L k]).2.head.age < 3600
    · obtain ⟨s', rfl, h3, h4, h5⟩ := h2 ha
      exact ⟨by rw [killB_yes ht hp ha], lv, _, h3, (killZ_yes ht hp ha s').symm, h4, h5⟩
    · obtain ⟨rfl, hb⟩ := h1 (by omega)
      exact ⟨by rw [killB_dead ht hp ha], lv, L, h.below hb, (killZ_dead ht hp ha).symm, Turned.of b _ hb, Still.refl _ _ _⟩
theorem dkill_step (N b : Nat) (lv : Value) (L : List Row) (k : KeyZ) (w : World) (h : Keeps w N b 100 lv L) :
    Calls Try.prog 20 #[.pointer (some ⟨b, 0, none⟩), .agg (keyV k)] w (BoolEnd w N b lv L (killB (L.map fun r => r.2) k) (killZ (L.map fun r => r.2) k)) := by
  cases ht : thereB L k with
  | false =>
    refine (dkill_none N b 100 lv L k w h ht).mono ?_
    rintro e w' ⟨rfl, hb⟩
    exact ⟨by rw [killB_none ht], lv, L, h.below hb, (killZ_none ht).symm, Turned.of b _ hb, Still.refl _ _ _⟩
  | true =>
    obtain ⟨hp, hk⟩ := thereB_yes ht
    refine (dkill_there N b 100 lv L k w h ht _ (List.getElem?_eq_getElem hp)).mono ?_
    rintro e w' ⟨h1, h2⟩
    by_cases ha : (L[posZ L k]).2.head.age < 3600
    · obtain ⟨s', rfl, h3, h4, h5⟩ := h2 ha
      exact ⟨by rw [killB_yes ht hp ha], lv, _, h3, (killZ_yes ht hp ha s').symm, h4, h5⟩
    · obtain ⟨rfl, hb⟩ := h1 (by omega)
      exact ⟨by rw [killB_dead ht hp ha], lv, L, h.below hb, (killZ_dead ht hp ha).symm, Turned.of b _ hb, Still.refl _ _ _⟩
theorem Keeps.below_turned2 {w0 w w' : World} {N b : Nat} {most : Int} {lv : Value} {L : List Row} (h : Keeps w N b most lv L) (hb : Below N w0 w) (hN : N ≤ w.heap.size) (ht : Turned b lv.ownBlock w w') : Below N w0 w' :=
  hb.trans (ht.below hN h.lo h.own_lo)
theorem Keeps.lower {w : World} {N M b : Nat} {most : Int} {lv : Value} {L : List Row} (h : Keeps w N b most lv L) (hM : M ≤ N) : Keeps w M b most lv L :=
  ⟨h.obj, Nat.le_trans hM h.lo, ownsRow_base h.own hM, h.ne, h.held, h.nils, h.mid, h.shut, h.offb, h.offg, h.rising, h.len⟩
theorem great_mid9 {l : LsaZ} (h : greatB l = false) : Mid l := by
  unfold greatB at h
  simp only [Bool.or_eq_false_iff, decide_eq_false_iff_not] at h
  exact ⟨by omega, by omega, by omega⟩
theorem sealL_mid {l : LsaZ} (h : Mid l) : Mid (sealL l) := by unfold sealL; split <;> exact ⟨h.hl, h.hr, h.hv⟩
def tickZ (Z : List LsaZ) : List KeyZ := keysOf (fun h => h.age == 3599) (Z.map fun l => l.head)
theorem tickK_as (L : List Row) : tickK L = tickZ (L.map fun r => r.2) := by unfold tickK tickZ; rw [List.map_map]; rfl
theorem heads_as (L : List Row) : (L.map fun r => r.2.head) = (L.map fun r => r.2).map fun l => l.head := by rw [List.map_map]; rfl
theorem up_as (L : List Row) : (L.map fun r => upL r.2) = (L.map fun r => r.2).map upL := by rw [List.map_map]; rfl
theorem Both.len {w0 w : World} {N b1 b2 : Nat} {Z : List LsaZ} (h : Both w0 w N b1 b2 Z) : Z.length ≤ 1000000 := by
  obtain ⟨lv1, L1, lv2, L2, h1, h2, e1, e2, _⟩ := h
  have := h1.len
  rw [← e1, List.length_map]; exact this
/-- Put into both. -/
theorem Both.put1 {w0 w w1 : World} {N b1 b2 : Nat} {Z : List LsaZ} (h : Both w0 w N b1 b2 Z) (hb : Below w.heap.size w w1) (s : Seats) (l : LsaZ) (hH : Held w1 s l) (hf : Mid l) (hN : Nils s) :
    Calls Try.prog 12 #[.pointer (some ⟨b1, 0, none⟩), .agg (lsaA s l)] w1 fun e w' => e = .returned (.int .i64 (dbE Z l)) ∧ (∃ lv1 L1 lv2 L2, Keeps w' N b1 100 lv1 L1 ∧ Keeps w' N b2 100 lv2 L2 ∧ (L1.map fun r => r.2) = dbZ Z l ∧ (L2.map fun r => r.2) = Z ∧ Apart b1 lv1 L1 b2 lv2 L2 ∧ Below N w0 w' ∧ N ≤ w'.heap.size) := by
  obtain ⟨lv1, L1, lv2, L2, h1, h2, e1, e2, ha, hw, hn⟩ := h.below hb
  refine (put_step N b1 lv1 L1 s l w1 h1 hH hf hN hn).mono ?_
  rintro e w' ⟨rfl, lv', L', k1, k2, k3, k4⟩
  obtain ⟨m1, m2⟩ := ha.turn h1 h2 k3 k4
  rw [e1] at k2 ⊢
  exact ⟨rfl, lv', L', lv2, L2, k1, m1, k2, e2, m2, h1.below_turned2 hw hn k3, Nat.le_trans hn k3.size⟩
/-- Halfway: the program's has it, the document's not yet. -/
def Half2 (w0 w : World) (N b1 b2 : Nat) (Z1 Z2 : List LsaZ) : Prop := ∃ lv1 L1 lv2 L2, Keeps w N b1 100 lv1 L1 ∧ Keeps w N b2 100 lv2 L2 ∧ (L1.map fun r => r.2) = Z1 ∧ (L2.map fun r => r.2) = Z2 ∧ Apart b1 lv1 L1 b2 lv2 L2 ∧ Below N w0 w ∧ N ≤ w.heap.size
theorem Half2.below {w0 w w' : World} {N b1 b2 : Nat} {Z1 Z2 : List LsaZ} (h : Half2 w0 w N b1 b2 Z1 Z2) (hb : Below w.heap.size w w') : Half2 w0 w' N b1 b2 Z1 Z2 :=
  let ⟨lv1, L1, lv2, L2, h1, h2, e1, e2, ha, hw, hn⟩ := h
  ⟨lv1, L1, lv2, L2, h1.below hb, h2.below hb, e1, e2, ha, below_more hw hb hn, Nat.le_trans hn hb.size⟩
theorem Half2.put2 {w0 w w1 : World} {N b1 b2 : Nat} {Z Z' : List LsaZ} (h : Half2 w0 w N b1 b2 Z' Z) (hb : Below w.heap.size w w1) (s : Seats) (l : LsaZ) (hZ : Z' = dbZ Z l) (hH : Held w1 s l) (hf : Mid l) (hN : Nils s) (hfa : FarR w.heap.size s) :
    Calls Try.prog 14 #[.pointer (some ⟨b2, 0, none⟩), .agg (lsaA s l)] w1 fun e w' => e = .returned (.int .i64 (dbE Z l)) ∧ Both w0 w' N b1 b2 (dbZ Z l) := by
  obtain ⟨lv1, L1, lv2, L2, h1, h2, e1, e2, ha, hw, hn⟩ := h
  have h1' := h1.below hb
  have h2' := h2.below hb
  have hn' := Nat.le_trans hn hb.size
  refine (dput_step N b2 lv2 L2 s l w1 h2' hH hf hN hn' (hfa.off h2.obj.lt) (fun k hk => hfa.off (h2.own_lt k hk))).mono ?_
  rintro e w' ⟨rfl, lv', L', k1, k2, k3, k4⟩
  obtain ⟨m1, m2⟩ := ha.swap.turn h2' h1' k3 k4
  rw [e2] at k2 ⊢
  exact ⟨rfl, lv1, L1, lv', L', m1, k1, by rw [e1, hZ], k2, m2.swap, h2'.below_turned2 (below_more hw hb hn) hn' k3, Nat.le_trans hn' k3.size⟩
end Go.Proofs.Ytbogphhbjmapgaa
