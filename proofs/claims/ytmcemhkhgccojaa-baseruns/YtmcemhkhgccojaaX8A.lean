/- A database of advertisements, in plain data. -/
import Derived.Test.YtmcemhkhgccojaaY8D
import Derived.Deep.RegionHeld3
namespace Go.Proofs.Ytmcemhkhgccojaa

theorem cmpZ_zero {x y : Int} (h : cmpZ x y = 0) : x = y := by unfold cmpZ at h; split at h <;> (try split at h) <;> omega
structure KeyZ where
  kind : Int
  id : Int
  adv : Int
theorem KeyZ.same {a b : KeyZ} (h1 : a.kind = b.kind) (h2 : a.id = b.id) (h3 : a.adv = b.adv) : a = b := by cases a; cases b; simp_all
def keyZ (h : HeadZ) : KeyZ := ⟨h.kind, h.id, h.adv⟩
/-- On which side of b is a? -/
def agZ (a b : KeyZ) : Int := if cmpZ a.kind b.kind ≠ 0 then cmpZ a.kind b.kind else if cmpZ a.id b.id ≠ 0 then cmpZ a.id b.id else cmpZ a.adv b.adv
theorem agZ_self (a : KeyZ) : agZ a a = 0 := by simp [agZ, cmpZ_self]
theorem agZ_zero {a b : KeyZ} (h : agZ a b = 0) : a = b := by
  unfold agZ at h
  split at h
  · omega
  · rename_i h1
    split at h
    · omega
    · rename_i h2
      exact KeyZ.same (cmpZ_zero (by omega)) (cmpZ_zero (by omega)) (cmpZ_zero h)
theorem agZ_swap (a b : KeyZ) : agZ a b = - agZ b a := by
  have h1 := cmpZ_swap a.kind b.kind
  have h2 := cmpZ_swap a.id b.id
  have h3 := cmpZ_swap a.adv b.adv
  unfold agZ
  rw [h1, h2, h3]
  (repeat' split) <;> omega
theorem agZ_neg {a b : KeyZ} : agZ a b < 0 ↔ a.kind < b.kind ∨ (a.kind = b.kind ∧ (a.id < b.id ∨ (a.id = b.id ∧ a.adv < b.adv))) := by
  unfold agZ cmpZ
  (repeat' split) <;> omega
theorem agZ_trans {a b c : KeyZ} (h1 : agZ a b < 0) (h2 : agZ b c < 0) : agZ a c < 0 := by
  rw [agZ_neg] at *
  omega
/-- A row of a database: where its lists lie, and what it is. -/
abbrev Row := Seats × LsaZ
def rk (r : Row) : KeyZ := keyZ r.2.head
def Rising (L : List Row) : Prop := L.Pairwise fun a b => agZ (rk a) (rk b) < 0
/-- How many stand ahead of a Key. -/
def posZ : List Row → KeyZ → Nat
  | [], _ => 0
  | r :: L, k => if agZ (rk r) k < 0 then posZ L k + 1 else 0
theorem posZ_le (L : List Row) (k : KeyZ) : posZ L k ≤ L.length := by
  induction L with
  | nil => simp [posZ]
  | cons r L ih => unfold posZ; split <;> simp <;> omega
theorem posZ_lo (L : List Row) (k : KeyZ) : ∀ i (h : i < L.length), i < posZ L k → agZ (rk L[i]) k < 0 := by
  induction L with
  | nil => intro i h; simp at h
  | cons r L ih =>
    intro i h hp
    unfold posZ at hp
    split at hp
    · rename_i hr
      rcases i with _ | i
      · exact hr
      · exact ih i (by simpa using h) (by omega)
    · omega
theorem posZ_at (L : List Row) (k : KeyZ) (h : posZ L k < L.length) : ¬ agZ (rk L[posZ L k]) k < 0 := by
  induction L with
  | nil => simp [posZ] at h
  | cons r L ih =>
    unfold posZ at h
    by_cases hr : agZ (rk r) k < 0
    · rw [if_pos hr] at h
      have e : posZ (r :: L) k = posZ L k + 1 := by rw [posZ, if_pos hr]
      simp only [e, List.getElem_cons_succ]
      exact ih (by simpa using h)
    · have e : posZ (r :: L) k = 0 := by rw [posZ, if_neg hr]
      simp only [e, List.getElem_cons_zero]
      exact hr
theorem posZ_is (L : List Row) (k : KeyZ) (p : Nat) (hp : p ≤ L.length) (h1 : ∀ i (h : i < L.length), i < p → agZ (rk L[i]) k < 0) (h2 : ∀ h : p < L.length, ¬ agZ (rk L[p]) k < 0) : posZ L k = p := by
  have a1 := posZ_lo L k
  have a2 := posZ_at L k
  have a3 := posZ_le L k
  rcases Nat.lt_trichotomy (posZ L k) p with h | h | h
  · exact absurd (h1 _ (by omega) h) (a2 (by omega))
  · exact h
  · exact absurd (a1 p (by omega) h) (h2 (by omega))
/-- Of rows that rise those from there on are not ahead. -/
theorem rising_lt {L : List Row} (h : Rising L) (i j : Nat) (hi : i < j) (hj : j < L.length) : agZ (rk L[i]) (rk L[j]) < 0 := List.pairwise_iff_getElem.1 h i j (by omega) hj hi
theorem rising_mono {L : List Row} (h : Rising L) (k : KeyZ) (i j : Nat) (hi : i ≤ j) (hj : j < L.length) (hk : agZ (rk L[j]) k < 0) : agZ (rk (L[i]'(Nat.lt_of_le_of_lt hi hj))) k < 0 := by
  rcases Nat.lt_or_ge i j with h' | h'
  · exact agZ_trans (rising_lt h i j h' hj) hk
  · have : i = j := by omega
    subst this; exact hk
/-- Is it there? -/
def thereB (L : List Row) (k : KeyZ) : Bool := match L[posZ L k]? with
  | some r => agZ (rk r) k == 0
  | none => false
theorem thereB_yes {L : List Row} {k : KeyZ} (h : thereB L k = true) : ∃ hp : posZ L k < L.length, rk L[posZ L k] = k := by
  unfold thereB at h
  split at h
  · rename_i r hr
    obtain ⟨hp, e⟩ := List.getElem?_eq_some_iff.1 hr
    refine ⟨hp, ?_⟩
    rw [e]
    exact agZ_zero (by simpa using h)
  · cases h
theorem rising_set {L : List Row} (h : Rising L) (p : Nat) (r : Row) (hp : p < L.length) (hk : rk r = rk L[p]) : Rising (L.set p r) := by
  unfold Rising at *
  rw [List.pairwise_iff_getElem] at *
  intro i j hi hj hij
  have := h i j (by simpa using hi) (by simpa using hj) hij
  rw [List.getElem_set, List.getElem_set]
  split <;> split
  · omega
  · rename_i e _; subst e; rw [hk]; exact this
  · rename_i e; subst e; rw [hk]; exact this
  · exact this
theorem rising_ins {L : List Row} (h : Rising L) (r : Row) (hn : thereB L (rk r) = false) : Rising (L.take (posZ L (rk r)) ++ r :: L.drop (posZ L (rk r))) := by
  have a1 := posZ_lo L (rk r)
  have a2 := posZ_at L (rk r)
  have a3 := posZ_le L (rk r)
  have h' := h
  unfold Rising at *
  rw [List.pairwise_append]
  refine ⟨h.sublist (List.take_sublist _ _), ?_, ?_⟩
  · rw [List.pairwise_cons]
    refine ⟨?_, h.sublist (List.drop_sublist _ _)⟩
    intro x hx
    obtain ⟨i, hi, rfl⟩ := List.mem_iff_getElem.1 hx
    rw [List.length_drop] at hi
    rw [List.getElem_drop]
    have hge : ¬ agZ (rk (L[posZ L (rk r) + i]'(by omega))) (rk r) < 0 := by
      intro hc
      exact a2 (by omega) (rising_mono h' (rk r) (posZ L (rk r)) (posZ L (rk r) + i) (by omega) (by omega) hc)
    have hne : agZ (rk (L[posZ L (rk r) + i]'(by omega))) (rk r) ≠ 0 := by
      intro hc
      rcases Nat.eq_zero_or_pos i with e | e
      · subst e
        unfold thereB at hn
        rw [List.getElem?_eq_getElem (by omega)] at hn
        simp at hn
        exact hn hc
      · have h1 := rising_lt h' (posZ L (rk r)) (posZ L (rk r) + i) (by omega) (by omega)
        rw [agZ_zero hc] at h1
        exact a2 (by omega) h1
    rw [agZ_swap]
    omega
  · intro x hx y hy
    obtain ⟨i, hi, rfl⟩ := List.mem_iff_getElem.1 hx
    rw [List.length_take] at hi
    rw [List.getElem_take]
    have hlo := a1 i (by omega) (by omega)
    rcases List.mem_cons.1 hy with e | e
    · subst e; exact hlo
    · obtain ⟨j, hj, rfl⟩ := List.mem_iff_getElem.1 e
      rw [List.length_drop] at hj
      rw [List.getElem_drop]
      exact rising_lt h' _ _ (by omega) _
theorem rising_erase {L : List Row} (h : Rising L) (p : Nat) : Rising (L.take p ++ L.drop (p + 1)) := by
  have : (L.take p ++ L.drop (p + 1)).Sublist L := by
    have e : L.take p ++ L.drop p = L := List.take_append_drop p L
    conv => rhs; rw [← e]
    refine List.Sublist.append (List.Sublist.refl _) ?_
    rw [show L.drop (p + 1) = (L.drop p).drop 1 by rw [List.drop_drop]]
    exact List.drop_sublist _ _
  exact List.Pairwise.sublist this h
end Go.Proofs.Ytmcemhkhgccojaa
/- The first number that is not 0; on which side of a Key an advertisement stands. -/
namespace Go.Proofs.Ytmcemhkhgccojaa
open Go.RowKit

theorem agZ_or (a b : KeyZ) : agZ a b = orZ [cmpZ a.kind b.kind, cmpZ a.id b.id, cmpZ a.adv b.adv] := by
  unfold agZ orZ orZ orZ orZ
  (repeat' split) <;> omega
abbrev keyV (k : KeyZ) : Array Value := #[.int .i64 k.kind, .int .i64 k.id, .int .i64 k.adv]
end Go.Proofs.Ytmcemhkhgccojaa
/- On which side of a Key an advertisement stands. -/
namespace Go.Proofs.Ytmcemhkhgccojaa
open Go.RowKit

set_option maxHeartbeats 1600000 in
theorem against_any (s : Seats) (l : LsaZ) (k : KeyZ) (w : World) :
    Calls Try.prog 48 #[.agg (lsaA s l), .agg (keyV k)] w fun e w' => e = .returned (.int .i64 (agZ (keyZ l.head) k)) ∧ Below w.heap.size w w' := by
  have HX : Hid (Box ((w.alloc (.cells (lsaA s l) 39)).alloc (.cells (keyV k) 41)) w.heap.size s l) := (box_new w s l).below ((Below.refl _ _).alloc (Nat.le_refl _) _) (by simp)
  have HY : Hid (Var ((w.alloc (.cells (lsaA s l) 39)).alloc (.cells (keyV k) 41)) (w.heap.size + 1) [.int .i64 k.kind, .int .i64 k.id, .int .i64 k.adv]) := by
    have := var_new (w.alloc (.cells (lsaA s l) 39)) [.int .i64 k.kind, .int .i64 k.id, .int .i64 k.adv] 41
    rw [size_new] at this; exact this
  have HB : Hid (Below w.heap.size w ((w.alloc (.cells (lsaA s l) 39)).alloc (.cells (keyV k) 41))) := (below_new' _ _).alloc (by simp) _
  have HE : Hid (agZ (keyZ l.head) k = orZ [cmpZ l.head.kind k.kind, cmpZ l.head.id k.id, cmpZ l.head.adv k.adv]) := agZ_or _ _
  generalize agZ (keyZ l.head) k = R at *
  have CA := compare_at l.head.kind k.kind _ rfl
  have CB := compare_at l.head.id k.id _ rfl
  have CC := compare_at l.head.adv k.adv _ rfl
  generalize cmpZ l.head.kind k.kind = A at *
  generalize cmpZ l.head.id k.id = B at *
  generalize cmpZ l.head.adv k.adv = C at *
  go_enter Try.func48, Try.ntmps48
  go_upto_region 1 with fail
  generalize (w.alloc (.cells (lsaA s l) 39)).alloc (.cells (keyV k) 41) = W at *
  have keepS : Hid (∀ X, Below W.heap.size W X → X.cell? ⟨w.heap.size, 1, none⟩ = some (.int .i64 l.head.kind) ∧ X.cell? ⟨w.heap.size, 2, none⟩ = some (.int .i64 l.head.id) ∧ X.cell? ⟨w.heap.size, 3, none⟩ = some (.int .i64 l.head.adv) ∧ X.cell? ⟨w.heap.size + 1, 0, none⟩ = some (.int .i64 k.kind) ∧ X.cell? ⟨w.heap.size + 1, 1, none⟩ = some (.int .i64 k.id) ∧ X.cell? ⟨w.heap.size + 1, 2, none⟩ = some (.int .i64 k.adv) ∧ Hid (Below W.heap.size W X)) := by
    intro X hX
    obtain ⟨-, c1, c2, c3, -, -, -, -, -, -, -, -⟩ := HX.out.below hX HX.out.lt
    have HY' := HY.out.below hX HY.out.lt
    exact ⟨c1, c2, c3, HY'.cell 0 rfl, HY'.cell 1 rfl, HY'.cell 2 rfl, hX⟩
  have hVd : Hid (Below W.heap.size W W.drew) := (Below.refl _ _).drew
  have hNd : Hid (Below W.heap.size W (W.alloc (.cells #[.int .i64 A, .int .i64 B, .int .i64 C] 3)).drew) := ((Below.refl _ _).alloc (Nat.le_refl _) _).drew
  have CO := or_any _ 3 3 [A, B, C] (W.alloc (.cells #[.int .i64 A, .int .i64 B, .int .i64 C] 3)).drew rfl ((lies_three W A B C).below (Below.refl _ _).drew) (by simp)
  clear HX HY
  go_region_held3 (fun X => X.cell? ⟨w.heap.size, 1, none⟩ = some (.int .i64 l.head.kind) ∧ X.cell? ⟨w.heap.size, 2, none⟩ = some (.int .i64 l.head.id) ∧ X.cell? ⟨w.heap.size, 3, none⟩ = some (.int .i64 l.head.adv) ∧ X.cell? ⟨w.heap.size + 1, 0, none⟩ = some (.int .i64 k.kind) ∧ X.cell? ⟨w.heap.size + 1, 1, none⟩ = some (.int .i64 k.id) ∧ X.cell? ⟨w.heap.size + 1, 2, none⟩ = some (.int .i64 k.adv) ∧ Hid (Below W.heap.size W X)) (with_reducible first | exact keepS.out _ hVd.out | assumption | exact keepS.out _ hNd.out) (first
    | (go_at_call_of 49 (Value.int .i64 l.head.kind); refine (CA _).mono ?_; rintro e w' ⟨rfl, rfl⟩)
    | (go_at_call_of 49 (Value.int .i64 l.head.id); refine (CB _).mono ?_; rintro e w' ⟨rfl, rfl⟩)
    | (go_at_call_of 49 (Value.int .i64 l.head.adv); refine (CC _).mono ?_; rintro e w' ⟨rfl, rfl⟩)
    | (go_at_call 67; refine CO.mono ?_; rintro e w' ⟨rfl, rfl⟩))
  all_goals
    clear CO
    go_wp2
    go_ret
    exact ⟨ret_int HE.out.symm, below_more HB.out hNd.out HB.out.size⟩
end Go.Proofs.Ytmcemhkhgccojaa
/- Sought by halving. -/
namespace Go.Proofs.Ytmcemhkhgccojaa
open Go.RowKit

def rowC (r : Row) : List Value := (lsaA r.1 r.2).toList
theorem rowC_length (r : Row) : (rowC r).length = 12 := rfl
theorem DB.cells {w : World} {a : Option Addr} {L : List Row} (h : Lies w a (cellsOf rowC L)) (i : Nat) (hi : i < L.length) :
    ∃ b off, a = some ⟨b, off, none⟩ ∧ (∀ j, j < 12 → w.cell? ⟨b, off + (i * 12 + j), none⟩ = (rowC L[i])[j]?) := by
  obtain ⟨b, off, rfl, hc⟩ := h.cell rowC 12 rowC_length (by rintro rfl; simp at hi) (by omega)
  exact ⟨b, off, rfl, fun j hj => hc i j hi hj⟩
/-- The cells of a row of a database. -/
structure RowAt (w : World) (b o : Nat) (r : Row) : Prop where
  c0 : w.cell? ⟨b, o, none⟩ = some (.int .i64 r.2.head.age)
  c1 : w.cell? ⟨b, o + 1, none⟩ = some (.int .i64 r.2.head.kind)
  c2 : w.cell? ⟨b, o + 2, none⟩ = some (.int .i64 r.2.head.id)
  c3 : w.cell? ⟨b, o + 3, none⟩ = some (.int .i64 r.2.head.adv)
  c4 : w.cell? ⟨b, o + 4, none⟩ = some (.int .i64 r.2.head.seq)
  c5 : w.cell? ⟨b, o + 5, none⟩ = some (.int .i64 r.2.head.sum)
  c6 : w.cell? ⟨b, o + 6, none⟩ = some (.int .i64 r.2.head.len)
  c7 : w.cell? ⟨b, o + 7, none⟩ = some (.int .i64 r.2.flags)
  c8 : w.cell? ⟨b, o + 8, none⟩ = some (.slice r.1.la r.2.links.length r.1.lc)
  c9 : w.cell? ⟨b, o + 9, none⟩ = some (.int .i64 r.2.bits)
  c10 : w.cell? ⟨b, o + 10, none⟩ = some (.slice r.1.ra r.2.routers.length r.1.rc)
  c11 : w.cell? ⟨b, o + 11, none⟩ = some (.slice r.1.va r.2.verts.length r.1.vc)
theorem DB.at {w : World} {a : Option Addr} {L : List Row} (h : Lies w a (cellsOf rowC L)) (i : Nat) (hi : i < L.length) :
    ∃ b off, a = some ⟨b, off, none⟩ ∧ RowAt w b (off + i * 12) L[i] := by
  obtain ⟨b, off, rfl, hc⟩ := DB.cells h i hi
  have hx : ∀ j, j < 12 → w.cell? ⟨b, off + i * 12 + j, none⟩ = (rowC L[i])[j]? := fun j hj => by rw [Nat.add_assoc]; exact hc j hj
  exact ⟨b, off, rfl, hx 0 (by omega), hx 1 (by omega), hx 2 (by omega), hx 3 (by omega), hx 4 (by omega), hx 5 (by omega), hx 6 (by omega), hx 7 (by omega), hx 8 (by omega), hx 9 (by omega), hx 10 (by omega), hx 11 (by omega)⟩
theorem RowAt.lt {w : World} {b o : Nat} {r : Row} (h : RowAt w b o r) : b < w.heap.size := by
  rcases Nat.lt_or_ge b w.heap.size with h' | h'
  · exact h'
  · have := h.c0; simp [World.cell?, Array.getElem?_eq_none h'] at this
theorem RowAt.below {w w' : World} {b o N : Nat} {r : Row} (h : RowAt w b o r) (hb : Below N w w') (hN : b < N) : RowAt w' b o r := by
  obtain ⟨h0, h1, h2, h3, h4, h5, h6, h7, h8, h9, h10, h11⟩ := h
  exact ⟨by rw [hb.cell hN]; exact h0, by rw [hb.cell hN]; exact h1, by rw [hb.cell hN]; exact h2, by rw [hb.cell hN]; exact h3, by rw [hb.cell hN]; exact h4, by rw [hb.cell hN]; exact h5, by rw [hb.cell hN]; exact h6, by rw [hb.cell hN]; exact h7, by rw [hb.cell hN]; exact h8, by rw [hb.cell hN]; exact h9, by rw [hb.cell hN]; exact h10, by rw [hb.cell hN]; exact h11⟩
set_option maxHeartbeats 1600000 in
theorem search_any (a : Option Addr) (n cap : Nat) (L : List Row) (k : KeyZ) (w : World) (hn : n = L.length) (hL : Lies w a (cellsOf rowC L)) (hl : L.length ≤ 1000000000) (hR : Rising L) :
    Calls Try.prog 47 #[.slice a n cap, .agg (keyV k), .func (.func 48) #[] #[]] w fun e w' => e = .returned (.tuple #[.int .i64 (posZ L k), .bool (thereB L k)]) ∧ Below w.heap.size w w' := by
  subst hn
  have HB0 : Hid (Below w.heap.size w (w.alloc (.cells (keyV k) 41))) := below_new' _ _
  have HL : Hid (Lies w a (cellsOf rowC L)) := hL
  have HR : Hid (Rising L) := hR
  have HK0 : Hid (Var (w.alloc (.cells (keyV k) 41)) w.heap.size [.int .i64 k.kind, .int .i64 k.id, .int .i64 k.adv]) := var_new w [.int .i64 k.kind, .int .i64 k.id, .int .i64 k.adv] _
  clear hL hR
  go_enter Try.func47, Try.ntmps47
  go_upto_region 1 with fail
  generalize w.alloc (.cells (keyV k) 41) = W at *
  go_wp2_with fail
  go_loopw [9, 10] (fun u v wr => ∃ i j : Nat, i ≤ j ∧ j ≤ L.length ∧ u = .int .i64 i ∧ v = .int .i64 j ∧ Hid (∀ t (h : t < L.length), t < i → agZ (rk L[t]) k < 0) ∧ Hid (∀ t (h : t < L.length), j ≤ t → 0 ≤ agZ (rk L[t]) k) ∧ Hid (Below W.heap.size W wr)) (fun u v _ => (intOf v).toNat - (intOf u).toNat)
  case atStart => exact ⟨0, L.length, by omega, by omega, rfl, rfl, fun t _ h => absurd h (by omega), fun t h h' => absurd h' (by omega), Below.refl _ _⟩
  case round =>
    obtain ⟨i, j, hij, hj, rfl, rfl, H1, H2, HB⟩ := hrel
    by_cases hlt : i < j
    · obtain ⟨h, hh⟩ : ∃ h : Nat, ((i : Int) + (j : Int)) / 2 = (h : Int) := ⟨(i + j) / 2, by omega⟩
      have h1 : i ≤ h := by omega
      have h2 : h < j := by omega
      have h3 : h < L.length := by omega
      have HWb : Hid (Below w.heap.size w wr) := below_more HB0.out HB.out HB0.out.size
      obtain ⟨b, off, rfl, hrow⟩ := DB.at (HL.out.below HWb.out) h h3
      have HAG : Hid (agZ (keyZ L[h].2.head) k = agZ (rk L[h]) k) := rfl
      generalize hr : L[h] = r at *
      have HRr : Hid (L[h] = r) := hr
      clear hr
      have HKr := HK0.out.below HB.out HK0.out.lt
      go_upto_region 5 with fail
      have keepS : Hid (∀ X, Below wr.heap.size wr X → X.cell? ⟨b, off + h * 12, none⟩ = some (.int .i64 r.2.head.age) ∧ X.cell? ⟨b, off + h * 12 + 1, none⟩ = some (.int .i64 r.2.head.kind) ∧ X.cell? ⟨b, off + h * 12 + 2, none⟩ = some (.int .i64 r.2.head.id) ∧ X.cell? ⟨b, off + h * 12 + 3, none⟩ = some (.int .i64 r.2.head.adv) ∧ X.cell? ⟨b, off + h * 12 + 4, none⟩ = some (.int .i64 r.2.head.seq) ∧ X.cell? ⟨b, off + h * 12 + 5, none⟩ = some (.int .i64 r.2.head.sum) ∧ X.cell? ⟨b, off + h * 12 + 6, none⟩ = some (.int .i64 r.2.head.len) ∧ X.cell? ⟨b, off + h * 12 + 7, none⟩ = some (.int .i64 r.2.flags) ∧ X.cell? ⟨b, off + h * 12 + 8, none⟩ = some (.slice r.1.la r.2.links.length r.1.lc) ∧ X.cell? ⟨b, off + h * 12 + 9, none⟩ = some (.int .i64 r.2.bits) ∧ X.cell? ⟨b, off + h * 12 + 10, none⟩ = some (.slice r.1.ra r.2.routers.length r.1.rc) ∧ X.cell? ⟨b, off + h * 12 + 11, none⟩ = some (.slice r.1.va r.2.verts.length r.1.vc) ∧ X.cell? ⟨w.heap.size, 0, none⟩ = some (.int .i64 k.kind) ∧ X.cell? ⟨w.heap.size, 1, none⟩ = some (.int .i64 k.id) ∧ X.cell? ⟨w.heap.size, 2, none⟩ = some (.int .i64 k.adv)) := by
        intro X hX
        obtain ⟨c0, c1, c2, c3, c4, c5, c6, c7, c8, c9, c10, c11⟩ := hrow.below hX hrow.lt
        have HKx := HKr.below hX HKr.lt
        exact ⟨c0, c1, c2, c3, c4, c5, c6, c7, c8, c9, c10, c11, HKx.cell 0 rfl, HKx.cell 1 rfl, HKx.cell 2 rfl⟩
      have hS := keepS.out _ (Below.refl _ _).drew
      clear hrow HKr
      have CA : Calls _ _ _ _ _ := (against_any r.1 r.2 k wr.drew).mono (R' := fun e w' => e = .returned (.int .i64 (agZ (keyZ r.2.head) k)) ∧ Below wr.heap.size wr w') fun e w' h => ⟨h.1, ((Below.refl _ _).drew).trans h.2⟩
      go_region_held3 (fun X => X.cell? ⟨b, off + h * 12, none⟩ = some (.int .i64 r.2.head.age) ∧ X.cell? ⟨b, off + h * 12 + 1, none⟩ = some (.int .i64 r.2.head.kind) ∧ X.cell? ⟨b, off + h * 12 + 2, none⟩ = some (.int .i64 r.2.head.id) ∧ X.cell? ⟨b, off + h * 12 + 3, none⟩ = some (.int .i64 r.2.head.adv) ∧ X.cell? ⟨b, off + h * 12 + 4, none⟩ = some (.int .i64 r.2.head.seq) ∧ X.cell? ⟨b, off + h * 12 + 5, none⟩ = some (.int .i64 r.2.head.sum) ∧ X.cell? ⟨b, off + h * 12 + 6, none⟩ = some (.int .i64 r.2.head.len) ∧ X.cell? ⟨b, off + h * 12 + 7, none⟩ = some (.int .i64 r.2.flags) ∧ X.cell? ⟨b, off + h * 12 + 8, none⟩ = some (.slice r.1.la r.2.links.length r.1.lc) ∧ X.cell? ⟨b, off + h * 12 + 9, none⟩ = some (.int .i64 r.2.bits) ∧ X.cell? ⟨b, off + h * 12 + 10, none⟩ = some (.slice r.1.ra r.2.routers.length r.1.rc) ∧ X.cell? ⟨b, off + h * 12 + 11, none⟩ = some (.slice r.1.va r.2.verts.length r.1.vc) ∧ X.cell? ⟨w.heap.size, 0, none⟩ = some (.int .i64 k.kind) ∧ X.cell? ⟨w.heap.size, 1, none⟩ = some (.int .i64 k.id) ∧ X.cell? ⟨w.heap.size, 2, none⟩ = some (.int .i64 k.adv)) (with_reducible first | exact hS | exact keepS.out _ hk | assumption | fail) (first | (go_at_call 48; refine CA.mono ?_; rintro e w' ⟨rfl, hk⟩))
      rename_i hSx
      have HB2 : Hid (Below W.heap.size W w') := below_more HB.out hk HB.out.size
      clear CA hk hS hSx keepS
      have HAG2 : Hid (agZ (rk r) k = agZ (keyZ r.2.head) k) := rfl
      clear HAG
      generalize agZ (keyZ r.2.head) k = V at *
      by_cases hneg : V < 0
      · have HX : Hid (∀ t (h' : t < L.length), t < h + 1 → agZ (rk L[t]) k < 0) := by
          intro t ht htl
          rcases Nat.lt_or_ge t h with h' | h'
          · exact rising_mono HR.out k t h (by omega) h3 (by rw [HRr.out, HAG2.out]; exact hneg)
          · have : t = h := by omega
            subst this; rw [HRr.out, HAG2.out]; exact hneg
        clear HAG2 HRr
        go_wp2
        go_roundw
        case rel => exact ⟨h + 1, j, by omega, by omega, by go_num, rfl, HX, H2, HB2⟩
        case measure => simp [intOf]; omega
      · have HX : Hid (∀ t (h' : t < L.length), h ≤ t → 0 ≤ agZ (rk L[t]) k) := by
          intro t ht htl
          rcases Int.lt_or_le (agZ (rk L[t]) k) 0 with hc | hc
          · exact absurd (rising_mono HR.out k h t htl ht hc) (by rw [HRr.out, HAG2.out]; exact hneg)
          · exact hc
        clear HAG2 HRr
        go_wp2
        go_roundw
        case rel => exact ⟨i, h, by omega, by omega, rfl, rfl, H1, HX, HB2⟩
        case measure => simp [intOf]; omega
    · have hij' : i = j := by omega
      subst hij'
      have hpos : posZ L k = i := posZ_is L k i hj (fun t h ht => H1.out t h ht) (fun h => by have := H2.out i h (Nat.le_refl _); omega)
      have HP : Hid (posZ L k = i) := hpos
      have HWb : Hid (Below w.heap.size w wr) := below_more HB0.out HB.out HB0.out.size
      clear hpos H1 H2
      by_cases h3 : i < L.length
      · obtain ⟨b, off, rfl, hrow⟩ := DB.at (HL.out.below HWb.out) i h3
        have HT : Hid (thereB L k = (agZ (keyZ L[i].2.head) k == 0)) := by
          show thereB L k = _
          unfold thereB; rw [HP.out, List.getElem?_eq_getElem h3]; rfl
        generalize L[i] = r at *
        have HKr := HK0.out.below HB.out HK0.out.lt
        go_upto_region 8 with fail
        have keepS : Hid (∀ X, Below wr.heap.size wr X → X.cell? ⟨b, off + i * 12, none⟩ = some (.int .i64 r.2.head.age) ∧ X.cell? ⟨b, off + i * 12 + 1, none⟩ = some (.int .i64 r.2.head.kind) ∧ X.cell? ⟨b, off + i * 12 + 2, none⟩ = some (.int .i64 r.2.head.id) ∧ X.cell? ⟨b, off + i * 12 + 3, none⟩ = some (.int .i64 r.2.head.adv) ∧ X.cell? ⟨b, off + i * 12 + 4, none⟩ = some (.int .i64 r.2.head.seq) ∧ X.cell? ⟨b, off + i * 12 + 5, none⟩ = some (.int .i64 r.2.head.sum) ∧ X.cell? ⟨b, off + i * 12 + 6, none⟩ = some (.int .i64 r.2.head.len) ∧ X.cell? ⟨b, off + i * 12 + 7, none⟩ = some (.int .i64 r.2.flags) ∧ X.cell? ⟨b, off + i * 12 + 8, none⟩ = some (.slice r.1.la r.2.links.length r.1.lc) ∧ X.cell? ⟨b, off + i * 12 + 9, none⟩ = some (.int .i64 r.2.bits) ∧ X.cell? ⟨b, off + i * 12 + 10, none⟩ = some (.slice r.1.ra r.2.routers.length r.1.rc) ∧ X.cell? ⟨b, off + i * 12 + 11, none⟩ = some (.slice r.1.va r.2.verts.length r.1.vc) ∧ X.cell? ⟨w.heap.size, 0, none⟩ = some (.int .i64 k.kind) ∧ X.cell? ⟨w.heap.size, 1, none⟩ = some (.int .i64 k.id) ∧ X.cell? ⟨w.heap.size, 2, none⟩ = some (.int .i64 k.adv)) := by
          intro X hX
          obtain ⟨c0, c1, c2, c3, c4, c5, c6, c7, c8, c9, c10, c11⟩ := hrow.below hX hrow.lt
          have HKx := HKr.below hX HKr.lt
          exact ⟨c0, c1, c2, c3, c4, c5, c6, c7, c8, c9, c10, c11, HKx.cell 0 rfl, HKx.cell 1 rfl, HKx.cell 2 rfl⟩
        have hS := keepS.out _ (Below.refl _ _).drew
        clear hrow HKr
        have CA : Calls _ _ _ _ _ := (against_any r.1 r.2 k wr.drew).mono (R' := fun e w' => e = .returned (.int .i64 (agZ (keyZ r.2.head) k)) ∧ Below wr.heap.size wr w') fun e w' h => ⟨h.1, ((Below.refl _ _).drew).trans h.2⟩
        go_region_held3 (fun X => X.cell? ⟨b, off + i * 12, none⟩ = some (.int .i64 r.2.head.age) ∧ X.cell? ⟨b, off + i * 12 + 1, none⟩ = some (.int .i64 r.2.head.kind) ∧ X.cell? ⟨b, off + i * 12 + 2, none⟩ = some (.int .i64 r.2.head.id) ∧ X.cell? ⟨b, off + i * 12 + 3, none⟩ = some (.int .i64 r.2.head.adv) ∧ X.cell? ⟨b, off + i * 12 + 4, none⟩ = some (.int .i64 r.2.head.seq) ∧ X.cell? ⟨b, off + i * 12 + 5, none⟩ = some (.int .i64 r.2.head.sum) ∧ X.cell? ⟨b, off + i * 12 + 6, none⟩ = some (.int .i64 r.2.head.len) ∧ X.cell? ⟨b, off + i * 12 + 7, none⟩ = some (.int .i64 r.2.flags) ∧ X.cell? ⟨b, off + i * 12 + 8, none⟩ = some (.slice r.1.la r.2.links.length r.1.lc) ∧ X.cell? ⟨b, off + i * 12 + 9, none⟩ = some (.int .i64 r.2.bits) ∧ X.cell? ⟨b, off + i * 12 + 10, none⟩ = some (.slice r.1.ra r.2.routers.length r.1.rc) ∧ X.cell? ⟨b, off + i * 12 + 11, none⟩ = some (.slice r.1.va r.2.verts.length r.1.vc) ∧ X.cell? ⟨w.heap.size, 0, none⟩ = some (.int .i64 k.kind) ∧ X.cell? ⟨w.heap.size, 1, none⟩ = some (.int .i64 k.id) ∧ X.cell? ⟨w.heap.size, 2, none⟩ = some (.int .i64 k.adv)) (with_reducible first | exact hS | exact keepS.out _ hk | assumption | fail) (first | (go_at_call 48; refine CA.mono ?_; rintro e w' ⟨rfl, hk⟩))
        rename_i hSx
        have HB2 : Hid (Below w.heap.size w w') := below_more HWb.out hk HWb.out.size
        clear CA hk hS hSx keepS
        go_wp2
        exact bodyPost_ret (v := .tuple #[.int .i64 i, .bool (agZ (keyZ r.2.head) k == 0)]) (by simp [results, Try.results47, go_sem]) rfl ⟨by rw [HP.out, HT.out], HB2.out⟩
      · have HT : Hid (thereB L k = false) := by
          show thereB L k = _
          unfold thereB; rw [HP.out, List.getElem?_eq_none (by omega)]
        go_upto_region 8 with fail
        go_quiet (fail)
        go_wp2
        exact bodyPost_ret (v := .tuple #[.int .i64 i, .bool false]) (by simp [results, Try.results47, go_sem]) rfl ⟨by rw [HP.out, HT.out], below_dr HWb.out _⟩
end Go.Proofs.Ytmcemhkhgccojaa
/- A database in memory; sought in it. -/
namespace Go.Proofs.Ytmcemhkhgccojaa
open Go.RowKit

/-- Nothing of it lies in that block. -/
def OffA (g : Nat) (a : Option Addr) (vs : List Value) : Prop := vs ≠ [] → ∀ x, a = some x → x.block ≠ g
def Off (g : Nat) (r : Row) : Prop := OffA g r.1.la (cellsOf linkC r.2.links) ∧ OffA g r.1.ra (cellsOf intC r.2.routers) ∧ OffA g r.1.va (cellsOf vertC r.2.verts)
/-- A database: a variable of two cells at block b, rows of its own in another one, all from block N on. -/
structure Keeps (w : World) (N b : Nat) (most : Int) (lv : Value) (L : List Row) : Prop where
  obj : Var w b [.int .i64 most, lv]
  lo : N ≤ b
  own : w.ownsRow N 39 12 lv L.length (cellsOf rowC L)
  ne : lv.ownBlock ≠ some b
  held : ∀ r ∈ L, Held w r.1 r.2
  nils : ∀ r ∈ L, Nils r.1
  mid : ∀ r ∈ L, Mid r.2
  shut : ∀ r ∈ L, sealedB r.2 = true
  offb : ∀ r ∈ L, Off b r
  offg : ∀ r ∈ L, ∀ g, lv.ownBlock = some g → Off g r
  rising : Rising L
  len : L.length ≤ 1000000
theorem Keeps.lies {w : World} {N b : Nat} {most : Int} {lv : Value} {L : List Row} (h : Keeps w N b most lv L) : ∃ a c, lv = .slice a L.length c ∧ Lies w a (cellsOf rowC L) ∧ L.length ≤ c ∧ c ≤ maxLen ∧ (a = none → c = 0) ∧ (∀ x, a = some x → ∃ g, x = ⟨g, 0, none⟩ ∧ N ≤ g ∧ g < w.heap.size ∧ g ≠ b) := by
  have hne := h.ne
  rcases h.own.2 with ⟨h1, h2⟩ | ⟨g, cap, cur, h1, h2, h3, h4, h5, h6, h7⟩
  · refine ⟨none, 0, by rw [h1, h2], .inl ?_, by omega, by unfold maxLen; omega, fun _ => rfl, fun x hx => by cases hx⟩
    rw [List.eq_nil_of_length_eq_zero h2]; rfl
  · refine ⟨some ⟨g, 0, none⟩, cap, h1, ?_, h4, h5, fun h => (by cases h), fun x hx => ⟨g, by cases hx; rfl, h2, (Array.getElem?_eq_some_iff.1 h3).1, ?_⟩⟩
    · have ho := h.own
      rw [h1] at ho
      exact owns_lies ho
    · rintro rfl
      exact hne (by rw [h1]; rfl)
theorem Keeps.below {w w' : World} {N b : Nat} {most : Int} {lv : Value} {L : List Row} (h : Keeps w N b most lv L) (hb : Below w.heap.size w w') : Keeps w' N b most lv L := by
  refine ⟨h.obj.below hb h.obj.lt, h.lo, ?_, h.ne, fun r hr => (h.held r hr).below hb, h.nils, h.mid, h.shut, h.offb, h.offg, h.rising, h.len⟩
  refine ⟨h.own.1, ?_⟩
  rcases h.own.2 with hn | ⟨g, cap, cur, h1, h2, h3, r⟩
  · exact .inl hn
  · exact .inr ⟨g, cap, cur, h1, h2, by rw [hb.block _ (Array.getElem?_eq_some_iff.1 h3).1]; exact h3, r⟩
set_option maxHeartbeats 800000 in
theorem find_nil (k : KeyZ) (w : World) :
    Calls Try.prog 31 #[.pointer none, .agg (keyV k)] w fun e w' => e = .returned (.tuple #[.int .i64 0, .bool false]) ∧ Below w.heap.size w w' := by
  go_enter Try.func31, Try.ntmps31
  go_wp2
  exact bodyPost_ret (v := .tuple #[.int .i64 0, .bool false]) (by simp [results, Try.results31, go_sem]) rfl ⟨rfl, below_new' _ _⟩
set_option maxHeartbeats 1600000 in
theorem find_any (N b : Nat) (most : Int) (lv : Value) (L : List Row) (k : KeyZ) (w : World) (h : Keeps w N b most lv L) :
    Calls Try.prog 31 #[.pointer (some ⟨b, 0, none⟩), .agg (keyV k)] w fun e w' => e = .returned (.tuple #[.int .i64 (posZ L k), .bool (thereB L k)]) ∧ Below w.heap.size w w' := by
  obtain ⟨a, c, rfl, hL, -, -, -, -⟩ := h.lies
  have HB : Hid (Below w.heap.size w (w.alloc (.cells (keyV k) 41))) := below_new' _ _
  have HK : Hid (Keeps w N b most (.slice a L.length c) L) := h
  have HL : Hid (Lies w a (cellsOf rowC L)) := hL
  have HK0 : Hid (Var (w.alloc (.cells (keyV k) 41)) w.heap.size [.int .i64 k.kind, .int .i64 k.id, .int .i64 k.adv]) := var_new w [.int .i64 k.kind, .int .i64 k.id, .int .i64 k.adv] _
  clear h hL
  go_enter Try.func31, Try.ntmps31
  go_upto_region 3 with fail
  generalize w.alloc (.cells (keyV k) 41) = W at *
  have keepS : Hid (∀ X, Below W.heap.size W X → X.cell? ⟨b, 1, none⟩ = some (.slice a L.length c) ∧ X.cell? ⟨w.heap.size, 0, none⟩ = some (.int .i64 k.kind) ∧ X.cell? ⟨w.heap.size, 1, none⟩ = some (.int .i64 k.id) ∧ X.cell? ⟨w.heap.size, 2, none⟩ = some (.int .i64 k.adv)) := by
    intro X hX
    have h1 := (HK.out.below (below_more HB.out hX HB.out.size)).obj
    have h2 := HK0.out.below hX HK0.out.lt
    exact ⟨h1.cell 1 rfl, h2.cell 0 rfl, h2.cell 1 rfl, h2.cell 2 rfl⟩
  have hS := keepS.out _ (Below.refl _ _).drew
  have CA : Calls _ _ _ _ _ := (search_any a L.length c L k W.drew rfl (HL.out.below HB.out.drew) (by have := HK.out.len; omega) HK.out.rising).mono (R' := fun e w' => e = .returned (.tuple #[.int .i64 (posZ L k), .bool (thereB L k)]) ∧ Below W.heap.size W w') fun e w' h => ⟨h.1, ((Below.refl _ _).drew).trans h.2⟩
  go_region_held3 (fun X => X.cell? ⟨b, 1, none⟩ = some (.slice a L.length c) ∧ X.cell? ⟨w.heap.size, 0, none⟩ = some (.int .i64 k.kind) ∧ X.cell? ⟨w.heap.size, 1, none⟩ = some (.int .i64 k.id) ∧ X.cell? ⟨w.heap.size, 2, none⟩ = some (.int .i64 k.adv)) (with_reducible first | exact hS | exact keepS.out _ hk | assumption | fail) (first | (go_at_call 47; refine CA.mono ?_; rintro e w' ⟨rfl, hk⟩))
  rename_i hSx
  have HB2 : Hid (Below w.heap.size w w') := below_more HB.out hk HB.out.size
  clear CA hk hS hSx keepS
  go_wp2
  exact bodyPost_ret (v := .tuple #[.int .i64 (posZ L k), .bool (thereB L k)]) (by simp [results, Try.results31, go_sem]) rfl ⟨rfl, HB2.out⟩
end Go.Proofs.Ytmcemhkhgccojaa
