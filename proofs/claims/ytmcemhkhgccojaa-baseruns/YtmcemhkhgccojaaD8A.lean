/- The document's database: a new one; the place of a Key. -/
import Derived.Test.YtmcemhkhgccojaaKB
import Derived.Test.YtmcemhkhgccojaaKL
import Derived.Test.YtmcemhkhgccojaaS5D1
namespace Go.Proofs.Ytmcemhkhgccojaa
open Go.RowKit
set_option linter.unusedVariables false

def atZ (L : List Row) (k : KeyZ) : Int := if thereB L k = true then (posZ L k : Int) else -1
theorem posZ_self' {L : List Row} (h : Rising L) (i : Nat) (hi : i < L.length) : posZ L (rk L[i]) = i :=
  posZ_is L _ i (Nat.le_of_lt hi) (fun j hj hji => rising_lt h j i hji hi) (fun _ => by rw [agZ_self]; omega)
theorem there_at {L : List Row} (h : Rising L) (i : Nat) (hi : i < L.length) : thereB L (rk L[i]) = true := by
  unfold thereB
  rw [posZ_self' h i hi, List.getElem?_eq_getElem hi]
  simp [agZ_self]
theorem atZ_here {L : List Row} {k : KeyZ} (h : Rising L) (i : Nat) (hi : i < L.length) (e : rk L[i] = k) : atZ L k = i := by
  subst e
  unfold atZ
  rw [if_pos (there_at h i hi), posZ_self' h i hi]
theorem atZ_none {L : List Row} {k : KeyZ} (h : ∀ j (hj : j < L.length), rk L[j] ≠ k) : atZ L k = -1 := by
  unfold atZ
  rw [if_neg]
  intro ht
  obtain ⟨hp, e⟩ := thereB_yes ht
  exact h _ hp e
theorem rk_ne {r : Row} {k : KeyZ} (h : (r.2.head.kind == k.kind) = false ∨ (r.2.head.id == k.id) = false ∨ (r.2.head.adv == k.adv) = false) : rk r ≠ k := by
  rintro rfl
  rcases h with h | h | h <;> simp [rk, keyZ] at h
theorem rk_eq {r : Row} {k : KeyZ} (h1 : (r.2.head.kind == k.kind) = true) (h2 : (r.2.head.id == k.id) = true) (h3 : (r.2.head.adv == k.adv) = true) : rk r = k :=
  KeyZ.same (show r.2.head.kind = k.kind by simpa using h1) (show r.2.head.id = k.id by simpa using h2) (show r.2.head.adv = k.adv by simpa using h3)
set_option maxHeartbeats 800000 in
theorem dnew_any (most : Int) (w : World) (h1 : 1 ≤ most) (h2 : most ≤ 512) :
    Calls Try.prog 8 #[.int .i64 most] w fun e w' => e = .returned (.tuple #[.pointer (some ⟨w.heap.size, 0, none⟩), .int .i64 0]) ∧ w' = w.alloc (.cells #[.int .i64 most, .slice none 0 0] 55) := by
  go_enter Try.func8, Try.ntmps8
  go_wp2
  exact bodyPost_ret (v := .tuple #[.pointer (some ⟨w.heap.size, 0, none⟩), .int .i64 0]) (by simp [results, Try.results8, go_sem]) rfl ⟨rfl, rfl⟩
theorem new_keeps' (w : World) (most : Int) (t : TypeId) : Keeps (w.alloc (.cells #[.int .i64 most, .slice none 0 0] t)) w.heap.size w.heap.size most (.slice none 0 0) [] where
  obj := var_new w [.int .i64 most, .slice none 0 0] _
  lo := Nat.le_refl _
  own := World.ownsRow_nil _ _ _ _
  ne := by simp [Value.ownBlock]
  held := fun r h => absurd h (by simp)
  nils := fun r h => absurd h (by simp)
  mid := fun r h => absurd h (by simp)
  shut := fun r h => absurd h (by simp)
  offb := fun r h => absurd h (by simp)
  offg := fun r h => absurd h (by simp)
  rising := List.Pairwise.nil
  len := by simp
/-- A row of a database, wherever it stands. -/
theorem Keeps.at {w : World} {N b : Nat} {most : Int} {lv : Value} {L : List Row} (h : Keeps w N b most lv L) (i : Nat) (hi : i < L.length) : ∃ g c, lv = .slice (some ⟨g, 0, none⟩) L.length c ∧ L.length ≤ c ∧ g ≠ b ∧ N ≤ g ∧ RowAt w g (i * 12) L[i] ∧ ∀ j, w.frozen? ⟨g, j, none⟩ = false := by
  obtain ⟨a, c, rfl, hL, hLc, hcm, hanil, hag⟩ := h.lies
  obtain ⟨g, off, rfl, hrow⟩ := DB.at hL i hi
  obtain ⟨g', e, h1, h2, h3⟩ := hag _ rfl
  simp only [Addr.mk.injEq] at e
  obtain ⟨rfl, rfl, -⟩ := e
  rw [Nat.zero_add] at hrow
  exact ⟨g, c, rfl, hLc, h3, h1, hrow, fun j => World.ownsRow.frozenAt h.own j⟩
set_option maxHeartbeats 3200000 in
set_option maxRecDepth 20000 in
theorem at_any (N b : Nat) (most : Int) (lv : Value) (L : List Row) (k : KeyZ) (w : World) (h : Keeps w N b most lv L) :
    Calls Try.prog 37 #[.pointer (some ⟨b, 0, none⟩), .agg (keyV k)] w fun e w' => e = .returned (.int .i64 (atZ L k)) ∧ Below w.heap.size w w' := by
  have HK : Hid (Keeps w N b most lv L) := h
  have hln : L.length ≤ 1000000 := h.len
  obtain ⟨a, c, rfl, -, hLc, -, -, -⟩ := h.lies
  have hlc : (L.length : Int) ≤ (c : Int) := by omega
  have HRI : Hid (Rising L) := h.rising
  clear h
  have HB : Hid (Below w.heap.size w (w.alloc (.cells (keyV k) 41))) := below_new' _ _
  have HV : Hid (Var (w.alloc (.cells (keyV k) 41)) w.heap.size [.int .i64 k.kind, .int .i64 k.id, .int .i64 k.adv]) := var_new w [.int .i64 k.kind, .int .i64 k.id, .int .i64 k.adv] _
  go_enter Try.func37, Try.ntmps37
  go_upto_region 1 with fail
  generalize w.alloc (.cells (keyV k) 41) = W at *
  go_wp2_with fail
  go_loopw [5] (fun t wr => ∃ i : Nat, i ≤ L.length ∧ t = .int .i64 i ∧ Hid (∀ j (hj : j < L.length), j < i → rk L[j] ≠ k) ∧ Hid (Below W.heap.size W wr)) (fun t _ => L.length - (intOf t).toNat)
  case atStart => exact ⟨0, by omega, rfl, fun j hj h => absurd h (by omega), Below.refl _ _⟩
  case round =>
    obtain ⟨i, hi, rfl, HNE, HW⟩ := hrel
    have HBW : Hid (Below w.heap.size w wr) := below_more HB.out HW.out HB.out.size
    have b1 := (HK.out.below HBW.out).obj.cell 1 rfl
    by_cases hlt : i < L.length
    · have hiI : (i : Int) < (L.length : Int) := by omega
      obtain ⟨g, c', e, -, -, -, hrow, -⟩ := (HK.out.below HBW.out).at i hlt
      simp only [Value.slice.injEq, true_and] at e
      obtain ⟨rfl, rfl⟩ := e
      obtain ⟨r, hr⟩ : ∃ r, L[i] = r := ⟨_, rfl⟩
      have HRr : Hid (L[i] = r) := hr
      rw [hr] at hrow
      have HRow : Hid (RowAt wr g (i * 12) r) := hrow
      have keepS : Hid (∀ X, Below wr.heap.size wr X → X.cell? ⟨b, 1, none⟩ = some (.slice (some ⟨g, 0, none⟩) L.length c) ∧ X.cell? ⟨g, i * 12, none⟩ = some (.int .i64 r.2.head.age) ∧ X.cell? ⟨g, i * 12 + 1, none⟩ = some (.int .i64 r.2.head.kind) ∧ X.cell? ⟨g, i * 12 + 2, none⟩ = some (.int .i64 r.2.head.id) ∧ X.cell? ⟨g, i * 12 + 3, none⟩ = some (.int .i64 r.2.head.adv) ∧ X.cell? ⟨g, i * 12 + 4, none⟩ = some (.int .i64 r.2.head.seq) ∧ X.cell? ⟨g, i * 12 + 5, none⟩ = some (.int .i64 r.2.head.sum) ∧ X.cell? ⟨g, i * 12 + 6, none⟩ = some (.int .i64 r.2.head.len) ∧ X.cell? ⟨w.heap.size, 0, none⟩ = some (.int .i64 k.kind) ∧ X.cell? ⟨w.heap.size, 1, none⟩ = some (.int .i64 k.id) ∧ X.cell? ⟨w.heap.size, 2, none⟩ = some (.int .i64 k.adv) ∧ Hid (Below wr.heap.size wr X)) := by
        intro X hX
        have hk := (HK.out.below (below_more HBW.out hX HBW.out.size)).obj
        obtain ⟨c0, c1, c2, c3, c4, c5, c6, -, -, -, -, -⟩ := HRow.out.below hX HRow.out.lt
        have hv := HV.out.below (HW.out.trans (hX.mono HW.out.size)) HV.out.lt
        exact ⟨hk.cell 1 rfl, c0, c1, c2, c3, c4, c5, c6, hv.cell 0 rfl, hv.cell 1 rfl, hv.cell 2 rfl, hX⟩
      have hS0 := keepS.out _ (Below.refl _ _).drew
      have CK : Hid (∀ X, Below wr.heap.size wr X → Calls Try.prog 27 #[.agg (headA r.2.head)] X fun e w' => e = .returned (.agg #[.int .i64 r.2.head.kind, .int .i64 r.2.head.id, .int .i64 r.2.head.adv]) ∧ Hid (Below wr.heap.size wr w')) := fun X hX => (dkeyOf_any r.2.head X).mono fun e w' h => ⟨h.1, hX.trans (h.2.mono hX.size)⟩
      clear hrow hr
      cases h1 : (r.2.head.kind == k.kind) <;> cases h2 : (r.2.head.id == k.id) <;> cases h3 : (r.2.head.adv == k.adv)
      all_goals
        go_upto_region 4 with fail
        go_region_held3 (fun X => X.cell? ⟨b, 1, none⟩ = some (.slice (some ⟨g, 0, none⟩) L.length c) ∧ X.cell? ⟨g, i * 12, none⟩ = some (.int .i64 r.2.head.age) ∧ X.cell? ⟨g, i * 12 + 1, none⟩ = some (.int .i64 r.2.head.kind) ∧ X.cell? ⟨g, i * 12 + 2, none⟩ = some (.int .i64 r.2.head.id) ∧ X.cell? ⟨g, i * 12 + 3, none⟩ = some (.int .i64 r.2.head.adv) ∧ X.cell? ⟨g, i * 12 + 4, none⟩ = some (.int .i64 r.2.head.seq) ∧ X.cell? ⟨g, i * 12 + 5, none⟩ = some (.int .i64 r.2.head.sum) ∧ X.cell? ⟨g, i * 12 + 6, none⟩ = some (.int .i64 r.2.head.len) ∧ X.cell? ⟨w.heap.size, 0, none⟩ = some (.int .i64 k.kind) ∧ X.cell? ⟨w.heap.size, 1, none⟩ = some (.int .i64 k.id) ∧ X.cell? ⟨w.heap.size, 2, none⟩ = some (.int .i64 k.adv) ∧ Hid (Below wr.heap.size wr X)) (with_reducible first | exact hS0 | exact keepS.out _ hk1.out | assumption | fail) (first | (go_at_call 27; refine (CK.out _ (by go_split_ands; exact Hid.out (by assumption))).mono ?_; rintro e v1 ⟨rfl, hk1⟩))
        rename_i hSx
        clear hSx hS0 keepS CK b1
        first
          | (have HE : Hid (atZ L k = i) := atZ_here HRI.out i hlt (by rw [HRr.out]; exact rk_eq h1 h2 h3)
             have HB9 : Hid (Below w.heap.size w v1) := below_more HBW.out hk1.out HBW.out.size
             go_wp2
             go_ret
             exact ⟨by rw [HE.out]; rfl, HB9.out⟩)
          | (have HN9 : Hid (∀ j (hj : j < L.length), j < i + 1 → rk L[j] ≠ k) := fun j hj hji => by
               by_cases e : j = i
               · subst e; rw [HRr.out]; exact rk_ne (by simp [h1, h2, h3])
               · exact HNE.out j hj (by omega)
             have HB9 : Hid (Below W.heap.size W v1) := HW.out.trans (hk1.out.mono HW.out.size)
             go_wp2
             go_roundw
             case rel => exact ⟨i + 1, by omega, by go_num, HN9, HB9⟩
             case measure => simp [intOf]; omega)
    · have hie : i = L.length := by omega
      subst hie
      have HE : Hid (atZ L k = -1) := atZ_none fun j hj => HNE.out j hj hj
      have hnl : ¬ ((L.length : Int) < (L.length : Int)) := by omega
      go_wp2
      go_ret
      exact ⟨by rw [HE.out]; rfl, HBW.out⟩
end Go.Proofs.Ytmcemhkhgccojaa
