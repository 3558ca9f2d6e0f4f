/- The document's Get: the walk of what it reads. -/
import Derived.Test.YtknpgpmckabmbaaDoorS3W11
namespace Go.Proofs.YtknpgpmckabmbaaDoor
open Go.RowKit

theorem bts_set' {W : World} {a : Option Addr} {xs : List Int} {g i : Nat} {v : Value} (h : Bts W a xs) (hne : ∀ ad, a = some ad → ad.block ≠ g) : Bts (W.setCell ⟨g, i, none⟩ v) a xs := by
  rcases h with h | ⟨b, off, rfl, hc⟩
  · exact .inl h
  · refine .inr ⟨b, off, rfl, fun j hj => ?_⟩
    have hb : b ≠ g := hne _ rfl
    rw [World.cell?_setCell_other _ _ _ _ (by intro e; cases e; exact hb rfl)]
    exact hc j hj
theorem keep_all {w X : World} {p q : Addr} {x y : Value} (h8 : Hid (∀ W, Below w.heap.size w W → W.cell? p = some x)) (h9 : Hid (∀ W, Below w.heap.size w W → W.cell? q = some y)) (hb : Below w.heap.size w X) :
    X.cell? p = some x ∧ X.cell? q = some y ∧ Hid (Below w.heap.size w X) := ⟨h8.out X hb, h9.out X hb, hb⟩
theorem owns_none (W : World) (N : Nat) (hN : N = W.heap.size) : Owns (W.alloc (.cells #[] 5)) N N 0 [] := by subst hN; exact World.ownsRow_lit W #[] 0 (Nat.le_refl _) (by decide) rfl
def numK (zs : List Int) (K : Int) : Int := num4At zs K.toNat
theorem gotR_new {W w2 : World} {zs : List Int} {n cp' g' : Nat} (hW : Below W.heap.size W w2) (hb : Bts w2 (some ⟨g', 0, none⟩) (zs.drop 20)) (hc : n - 20 ≤ cp') (hg : W.heap.size ≤ g') :
    Got W zs n w2.heap.size (some ⟨g', 0, none⟩) cp' (w2.alloc (.cells #[.int .i64 (getT zs), .int .i64 (getP zs), .int .i64 (numK zs 12), .int .i64 (numK zs 16), .slice (some ⟨g', 0, none⟩) (n - 20) cp'] 24)) :=
  ⟨box_new w2 _ _ (getS zs) (getA zs) _, hb.below ((Below.refl _ _).alloc (Nat.le_refl _) _), (fun h => by cases h), hc, (fun _ h => by cases h; exact hg), hW.alloc hW.size _⟩
theorem gotR_old {W w2 : World} {zs : List Int} {n cp' g' A : Nat} {u0 u1 u2 u3 u4 : Value} (hW : Below W.heap.size W w2) (hb : Bts w2 (some ⟨g', 0, none⟩) (zs.drop 20)) (hc : n - 20 ≤ cp') (hg : W.heap.size ≤ g') (hA : W.heap.size ≤ A) (hne : g' ≠ A)
    (h0 : w2.cell? ⟨A, 0, none⟩ = some u0) (h1 : w2.cell? ⟨A, 1, none⟩ = some u1) (h2 : w2.cell? ⟨A, 2, none⟩ = some u2) (h3 : w2.cell? ⟨A, 3, none⟩ = some u3) (h4 : w2.cell? ⟨A, 4, none⟩ = some u4) :
    Got W zs n A (some ⟨g', 0, none⟩) cp' (((((w2.setCell ⟨A, 0, none⟩ (.int .i64 (getT zs))).setCell ⟨A, 1, none⟩ (.int .i64 (getP zs))).setCell ⟨A, 2, none⟩ (.int .i64 (numK zs 12))).setCell ⟨A, 3, none⟩ (.int .i64 (numK zs 16))).setCell ⟨A, 4, none⟩ (.slice (some ⟨g', 0, none⟩) (n - 20) cp')) := by
  have hn : ∀ ad, some (⟨g', 0, none⟩ : Addr) = some ad → ad.block ≠ A := fun ad h => by cases h; exact hne
  exact ⟨box_set h0 h1 h2 h3 h4, bts_set' (bts_set' (bts_set' (bts_set' (bts_set' hb hn) hn) hn) hn) hn, (fun h => by cases h), hc, (fun _ h => by cases h; exact hg),
    ((((hW.setCell (p := ⟨A, 0, none⟩) hA _).setCell (p := ⟨A, 1, none⟩) hA _).setCell (p := ⟨A, 2, none⟩) hA _).setCell (p := ⟨A, 3, none⟩) hA _).setCell (p := ⟨A, 4, none⟩) hA _⟩

theorem endR_new {W w2 : World} {zs : List Int} {n cp' g' : Nat} (hW : Below W.heap.size W w2) (hb : Bts w2 (some ⟨g', 0, none⟩) (zs.drop 20)) (hc : n - 20 ≤ cp') (hg : W.heap.size ≤ g') :
    ∃ (g6 : Nat) (a' : Option Addr) (cp'' : Nat), Value.pointer (some ⟨w2.heap.size, 0, none⟩) = .pointer (some ⟨g6, 0, none⟩) ∧ Hid (Got W zs n g6 a' cp'' (w2.alloc (.cells #[.int .i64 (getT zs), .int .i64 (getP zs), .int .i64 (numK zs 12), .int .i64 (numK zs 16), .slice (some ⟨g', 0, none⟩) (n - 20) cp'] 24))) :=
  ⟨_, _, _, rfl, gotR_new hW hb hc hg⟩
theorem endR_old {W w2 : World} {zs : List Int} {n cp' g' A : Nat} {u0 u1 u2 u3 u4 : Value} (hW : Below W.heap.size W w2) (hb : Bts w2 (some ⟨g', 0, none⟩) (zs.drop 20)) (hc : n - 20 ≤ cp') (hg : W.heap.size ≤ g') (hne : g' ≠ A) (hA : W.heap.size ≤ A)
    (h0 : w2.cell? ⟨A, 0, none⟩ = some u0) (h1 : w2.cell? ⟨A, 1, none⟩ = some u1) (h2 : w2.cell? ⟨A, 2, none⟩ = some u2) (h3 : w2.cell? ⟨A, 3, none⟩ = some u3) (h4 : w2.cell? ⟨A, 4, none⟩ = some u4) :
    ∃ (g6 : Nat) (a' : Option Addr) (cp'' : Nat), Value.pointer (some ⟨A, 0, none⟩) = .pointer (some ⟨g6, 0, none⟩) ∧ Hid (Got W zs n g6 a' cp'' (((((w2.setCell ⟨A, 0, none⟩ (.int .i64 (getT zs))).setCell ⟨A, 1, none⟩ (.int .i64 (getP zs))).setCell ⟨A, 2, none⟩ (.int .i64 (numK zs 12))).setCell ⟨A, 3, none⟩ (.int .i64 (numK zs 16))).setCell ⟨A, 4, none⟩ (.slice (some ⟨g', 0, none⟩) (n - 20) cp'))) :=
  ⟨_, _, _, rfl, gotR_old hW hb hc hg hA hne h0 h1 h2 h3 h4⟩
theorem below_drew3 {N : Nat} {a w : World} (h : Below N a w) : Below N a w.drew.drew.drew := h.drew.drew.drew
theorem grown_trans {N B : Nat} {W X w2 : World} (hX : Below N W X) (hN : N ≤ X.heap.size) (hB : N ≤ B) (hg : X.grownBy w2 (some B)) : Below N W w2 := hX.grown hg hN (fun j hj => by cases hj; exact hB)
theorem grown_box {B A : Nat} {X w2 : World} (hX : Box X A 0 0 0 0 (.slice none 0 0)) (hg : X.grownBy w2 (some B)) (hne : A ≠ B) : Box w2 A 0 0 0 0 (.slice none 0 0) := by
  have hl := hX.lt
  obtain ⟨h0, h1, h2, h3, h4⟩ := hX
  have hn : some A ≠ some B := fun e => hne (Option.some.inj e)
  exact ⟨by rw [hg.cell_far _ hl hn]; exact h0, by rw [hg.cell_far _ hl hn]; exact h1, by rw [hg.cell_far _ hl hn]; exact h2, by rw [hg.cell_far _ hl hn]; exact h3, by rw [hg.cell_far _ hl hn]; exact h4⟩
theorem after1 {W w2 : World} (hg : (W.alloc (.cells #[] 5)).drew.drew.drew.grownBy w2 (some W.heap.size)) : Below W.heap.size W w2 :=
  grown_trans (below_drew3 ((Below.refl _ _).alloc (Nat.le_refl _) _)) (by show _ ≤ (W.alloc _).heap.size; simp) (Nat.le_refl _) hg
theorem after2 {W w2 : World} {g' : Nat} (hg : ((W.alloc (.cells #[] 5)).alloc (.cells #[.int .i64 0, .int .i64 0, .int .i64 0, .int .i64 0, .slice none 0 0] 24)).drew.drew.drew.grownBy w2 (some W.heap.size)) (hat : g' = W.heap.size ∨ g' = ((W.alloc (.cells #[] 5)).alloc (.cells #[.int .i64 0, .int .i64 0, .int .i64 0, .int .i64 0, .slice none 0 0] 24)).drew.drew.drew.heap.size) :
    Below W.heap.size W w2 ∧ Box w2 (W.heap.size + 1) 0 0 0 0 (.slice none 0 0) ∧ (∀ i, w2.frozen? ⟨W.heap.size + 1, i, none⟩ = false) ∧ g' ≠ W.heap.size + 1 := by
  have hsz : ((W.alloc (.cells #[] 5)).alloc (.cells #[.int .i64 0, .int .i64 0, .int .i64 0, .int .i64 0, .slice none 0 0] 24)).drew.drew.drew.heap.size = W.heap.size + 1 + 1 := by show ((W.alloc _).alloc _).heap.size = _; simp
  have hX : Box ((W.alloc (.cells #[] 5)).alloc (.cells #[.int .i64 0, .int .i64 0, .int .i64 0, .int .i64 0, .slice none 0 0] 24)).drew.drew.drew (W.heap.size + 1) 0 0 0 0 (.slice none 0 0) := by
    have := box_new (W.alloc (.cells #[] 5)) 0 0 0 0 (.slice none 0 0)
    rw [show (W.alloc (.cells #[] 5)).heap.size = W.heap.size + 1 by simp] at this
    exact this.below ((Below.refl (W.heap.size + 2) _).drew.drew.drew) (by omega)
  refine ⟨grown_trans (below_drew3 (((Below.refl _ _).alloc (Nat.le_refl _) _).alloc (by simp) _)) (by omega) (Nat.le_refl _) hg, grown_box hX hg (by omega), fun i => ?_, by omega⟩
  rw [hg.frozen_far ⟨W.heap.size + 1, i, none⟩ (by show W.heap.size + 1 < _; omega) (fun e => by have := Option.some.inj e; simp at this)]
  show ((W.alloc (.cells #[] 5)).alloc (.cells #[.int .i64 0, .int .i64 0, .int .i64 0, .int .i64 0, .slice none 0 0] 24)).frozen? _ = false
  simp
theorem after3 {W w2 : World} {g' : Nat} (hg : ((W.alloc (.cells #[.int .i64 0, .int .i64 0, .int .i64 0, .int .i64 0, .slice none 0 0] 24)).alloc (.cells #[] 5)).drew.drew.drew.grownBy w2 (some (W.heap.size + 1))) (hat : g' = W.heap.size + 1 ∨ g' = ((W.alloc (.cells #[.int .i64 0, .int .i64 0, .int .i64 0, .int .i64 0, .slice none 0 0] 24)).alloc (.cells #[] 5)).drew.drew.drew.heap.size) :
    Below W.heap.size W w2 ∧ Box w2 W.heap.size 0 0 0 0 (.slice none 0 0) ∧ (∀ i, w2.frozen? ⟨W.heap.size, i, none⟩ = false) ∧ g' ≠ W.heap.size := by
  have hsz : ((W.alloc (.cells #[.int .i64 0, .int .i64 0, .int .i64 0, .int .i64 0, .slice none 0 0] 24)).alloc (.cells #[] 5)).drew.drew.drew.heap.size = W.heap.size + 1 + 1 := by show ((W.alloc _).alloc _).heap.size = _; simp
  have hX : Box ((W.alloc (.cells #[.int .i64 0, .int .i64 0, .int .i64 0, .int .i64 0, .slice none 0 0] 24)).alloc (.cells #[] 5)).drew.drew.drew W.heap.size 0 0 0 0 (.slice none 0 0) := (box_new W 0 0 0 0 (.slice none 0 0)).below (below_drew3 ((Below.refl (W.heap.size + 1) _).alloc (by simp) _)) (by omega)
  refine ⟨grown_trans (below_drew3 (((Below.refl _ _).alloc (Nat.le_refl _) _).alloc (by simp) _)) (by omega) (by omega) hg, grown_box hX hg (by omega), fun i => ?_, by omega⟩
  rw [hg.frozen_far ⟨W.heap.size, i, none⟩ (by show W.heap.size < _; omega) (fun e => by have := Option.some.inj e; simp at this)]
  show ((W.alloc (.cells #[.int .i64 0, .int .i64 0, .int .i64 0, .int .i64 0, .slice none 0 0] 24)).alloc (.cells #[] 5)).frozen? _ = false
  simp

set_option maxHeartbeats 6400000 in
theorem rget_main (b off n cap : Nat) (zs : List Int) (w : World) (hm : n = zs.length) (hB : Bts w (some ⟨b, off, none⟩) zs) (hz : AreBytes zs) (hn : 20 ≤ n) (hc : n ≤ cap) (hf : formP zs) :
    Calls Tryd.prog 12 #[.slice (some ⟨b, off, none⟩) n cap] w fun e w' => GetEnd zs n e w' ∧ Below w.heap.size w w' := by
  have HT : Hid (zs.take 8 = (wantZ zs).take 8) := (form_iff zs (areBytes_getD hz) (by omega) (by have := hf.2.2.2.2; omega)).2 ⟨hf.1, hf.2.1, hf.2.2.1, hf.2.2.2.1⟩
  have hn2 : n ≤ 1044 := by have := hf.2.2.2.2; omega
  have HM : Hid (n = zs.length) := hm
  have HC : Hid (∀ W, Below w.heap.size w W → ∀ i, i < n → W.cell? ⟨b, off + i, none⟩ = some (.int .u8 (zs.getD i 0))) := fun W hW i hi => (hB.below hW).cells i (by omega)
  have HBt : Hid (Bts w (some ⟨b, off, none⟩) zs) := hB
  have H8 : Hid (∀ W, Below w.heap.size w W → W.cell? ⟨b, off + 8, none⟩ = some (.int .u8 (getT zs))) := fun W hW => HC.out W hW 8 (by omega)
  have H9 : Hid (∀ W, Below w.heap.size w W → W.cell? ⟨b, off + 9, none⟩ = some (.int .u8 (getP zs))) := fun W hW => HC.out W hW 9 (by omega)
  have B8 : 0 ≤ getT zs ∧ getT zs ≤ 255 := areBytes_getD hz 8
  have B9 : 0 ≤ getP zs ∧ getP zs ≤ 255 := areBytes_getD hz 9
  have HZ : Hid (AreBytes zs) := hz
  have hW0 := below_new w (.cells #[.int .i64 0, .int .i64 0, .int .i64 0, .int .i64 0, .slice none 0 0] 24)
  have c0 : (w.alloc (.cells #[.int .i64 0, .int .i64 0, .int .i64 0, .int .i64 0, .slice none 0 0] 24)).cell? ⟨b, off, none⟩ = some (.int .u8 69) := by have := HC.out _ hW0 0 (by omega); rw [hf.1] at this; exact this
  have c1 : (w.alloc (.cells #[.int .i64 0, .int .i64 0, .int .i64 0, .int .i64 0, .slice none 0 0] 24)).cell? ⟨b, off + 1, none⟩ = some (.int .u8 0) := by have := HC.out _ hW0 1 (by omega); rw [hf.2.1] at this; exact this
  have k4 := rfour_at b off n cap 4 4 rfl zs _ (HC.out _ hW0) hz (by omega) (by omega)
  have k2 := rtwo_at b off n cap 2 2 rfl zs _ (HC.out _ hW0.drew) hz (by omega) (by omega)
  rw [hf.2.2.1] at k4
  rw [hf.2.2.2.1, ← hm] at k2
  have i1 : (1 : Int) < (n : Int) := by omega
  have HW0 : Hid (Below w.heap.size w (w.alloc (.cells #[.int .i64 0, .int .i64 0, .int .i64 0, .int .i64 0, .slice none 0 0] 24))) := hW0
  clear hm hB hz hf hW0
  go_enter Tryd.func12, Tryd.ntmps12
  go_wp2_with fail
  refine k4.mono ?_
  rintro e w' ⟨rfl, rfl⟩
  go_wp2_with fail
  refine k2.mono ?_
  rintro e w' ⟨rfl, rfl⟩
  go_upto_region 5 with fail
  have hW : Below w.heap.size w (w.alloc (.cells #[.int .i64 0, .int .i64 0, .int .i64 0, .int .i64 0, .slice none 0 0] 24)).drew.drew := HW0.out.drew.drew
  clear k4 k2 c0 c1
  generalize hWe : (w.alloc (.cells #[.int .i64 0, .int .i64 0, .int .i64 0, .int .i64 0, .slice none 0 0] 24)).drew.drew = W at *
  go_cut [4] from 39 (fun v wx => ∃ (g6 : Nat) (a' : Option Addr) (cp' : Nat), v = .pointer (some ⟨g6, 0, none⟩) ∧ Hid (Got W zs n g6 a' cp' wx))
  case first =>
    have hs := hW.size
    have i8 : (8 : Int) < (n : Int) := by omega
    have i9 : (9 : Int) < (n : Int) := by omega
    have i20 : (20 : Int) ≤ (n : Int) := by omega
    have j20 : (20 : Int) ≤ (cap : Int) := by omega
    have jn : (n : Int) ≤ (cap : Int) := by omega
    have t8 : IntKind.i64.wrap (getT zs) = getT zs := by rw [IntKind.wrap_i64]; omega
    have t9 : IntKind.i64.wrap (getP zs) = getP zs := by rw [IntKind.wrap_i64]; omega
    obtain ⟨ad, had⟩ : ∃ ad, (if cap = 20 then some (⟨b, off, none⟩ : Addr) else some ⟨b, off + 20, none⟩) = ad := ⟨_, rfl⟩
    have HD : Hid (∀ W, Below w.heap.size w W → Bts W ad (zs.drop 20)) := fun W hW => by rw [← had]; exact (HBt.out.below hW).drop 20 (by have := HM.out; omega)
    have HDn : Hid (ad = none → cap - 20 = 0) := by show _ → _; rw [← had]; split <;> simp
    have HDl : Hid (n - 20 = (zs.drop 20).length) := by show _ = _; rw [List.length_drop, HM.out]
    have FK : ∀ K : Int, 12 ≤ K ∧ K ≤ 16 → ∀ W, Below w.heap.size w W → Calls Tryd.prog 22 #[.slice (some ⟨b, off, none⟩) n cap, .int .i64 K] W fun e w' => e = .returned (.int .i64 (numK zs K)) ∧ w' = W.drew :=
      fun K hK W hW => rfour_at b off n cap K.toNat K (by omega) zs W (HC.out W hW) HZ.out (by omega) (by omega)
    have ho1 : Owns (W.alloc (.cells #[] 5)).drew.drew.drew W.heap.size W.heap.size 0 [] := (owns_none W W.heap.size rfl).drew.drew.drew
    have ho2 : Owns ((W.alloc (.cells #[] 5)).alloc (.cells #[.int .i64 0, .int .i64 0, .int .i64 0, .int .i64 0, .slice none 0 0] 24)).drew.drew.drew W.heap.size W.heap.size 0 [] := ((owns_none W W.heap.size rfl).alloc _).drew.drew.drew
    have ho3 : Owns ((W.alloc (.cells #[.int .i64 0, .int .i64 0, .int .i64 0, .int .i64 0, .slice none 0 0] 24)).alloc (.cells #[] 5)).drew.drew.drew W.heap.size (W.heap.size + 1) 0 [] := ((owns_none (W.alloc (.cells #[.int .i64 0, .int .i64 0, .int .i64 0, .int .i64 0, .slice none 0 0] 24)) (W.heap.size + 1) (by simp)).base (by omega)).drew.drew.drew
    go_region_held3 (fun w' => w'.cell? ⟨b, off + 8, none⟩ = some (.int .u8 (getT zs)) ∧ w'.cell? ⟨b, off + 9, none⟩ = some (.int .u8 (getP zs)) ∧ Hid (Below w.heap.size w w'))
      ((refine keep_all H8 H9 ?_; (with_reducible repeat' first | assumption | refine Below.drew ?_ | refine Below.alloc ?_ ?_ _ | refine Below.setCell ?_ ?_ _); all_goals (first | omega | (simp; omega))))
      (first | (go_at_call 22; refine (FK _ (by omega) _ (‹_ ∧ _ ∧ Hid (Below w.heap.size w _)›).2.2.out).mono ?_; rintro e w' ⟨rfl, rfl⟩) | ((refine step_append_at _ (by rfl) _ _ (by rfl) W.heap.size _ _ [] _ (by rfl) (by rfl) ?_ _ _ _ (by rfl) (zs.drop 20) HDl.out (HD.out _ (‹_ ∧ _ ∧ Hid (Below w.heap.size w _)›).2.2.out) HDn.out (by have := HDl.out; simp only [List.length_nil]; omega) (by first | omega | (simp; done) | (simp; omega)) ?_; (with_reducible first | exact ho1 | exact ho2 | exact ho3); intro g' cp' w2 ho hg hat; (with_reducible first | (have hk := after1 hg) | (obtain ⟨hk, hbx, hfr, hgA⟩ := after2 hg hat; obtain ⟨a0, a1, a2, a3, a4⟩ := hbx) | (obtain ⟨hk, hbx, hfr, hgA⟩ := after3 hg hat; obtain ⟨a0, a1, a2, a3, a4⟩ := hbx)); have hkw := hW.trans (hk.mono hs); have hs2 := hkw.size)) | fail)
    all_goals go_wp2
    all_goals go_meet
    all_goals have hcp : n - 20 ≤ cp' := by rw [HDl.out]; exact ho.cap
    all_goals have hgW : W.heap.size ≤ g' := ho.lt.1
    all_goals have hbR : Bts w2 (some ⟨g', 0, none⟩) (zs.drop 20) := ho.bts
    all_goals with_reducible first | exact endR_new hk hbR hcp hgW | exact endR_old hk hbR hcp hgW hgA (Nat.le_refl _) a0 a1 a2 a3 a4 | exact endR_old hk hbR hcp hgW hgA (Nat.le_add_right _ 1) a0 a1 a2 a3 a4 | fail
  case rest =>
    obtain ⟨g6, a', cp', rfl, hG⟩ := hcut
    obtain ⟨x0, x1, x2, x3, x4⟩ := hG.out.1
    have hWx : Below W.heap.size W wc := hG.out.2.2.2.2.2
    have hzd := areBytes_getD HZ.out
    have hput := rput_good (getT zs) (getP zs) (getS zs) (getA zs) a' (n - 20) cp' (zs.drop 20) wc (by rw [List.length_drop, HM.out]) hG.out.2.1 hG.out.2.2.1 (put_of_got zs hzd (n - 20) (by omega)) (by omega)
    clear hzd
    go_wp2_with fail
    refine hput.mono ?_
    rintro e w3 ⟨g, gc, rfl, ho, hk⟩
    rw [wantZ_of HM.out hn] at ho
    clear hput
    have hb3 : Below W.heap.size W w3 := hWx.trans (hk.mono hWx.size)
    have hw3 : Below w.heap.size w w3 := hW.trans (hb3.mono hW.size)
    have hX6 : Box w3 g6 (getT zs) (getP zs) (getS zs) (getA zs) (.slice a' (n - 20) cp') := hG.out.1.below hk hG.out.1.lt
    have hBA : Bts w3 a' (zs.drop 20) := hG.out.2.1.below hk
    have hfin := hG.out.2.2
    have hsz : W.heap.size = w.heap.size + 1 := by rw [← hWe]; show (w.alloc _).heap.size = _; simp
    have hX2 : Box w3 w.heap.size 0 0 0 0 (.slice none 0 0) := (by rw [← hWe]; exact (box_new w 0 0 0 0 (.slice none 0 0)).below ((Below.refl (w.heap.size + 1) _).drew.drew) (by omega) : Box W w.heap.size 0 0 0 0 (.slice none 0 0)).below hb3 (by omega)
    have hF : ∀ i, w3.frozen? ⟨w.heap.size, i, none⟩ = false := fun i => by rw [hb3.frozen (p := ⟨w.heap.size, i, none⟩) (by show w.heap.size < _; omega), ← hWe]; show (w.alloc _).frozen? _ = false; simp
    have hl := HM.out
    have bW : AreBytes (wantZ zs ++ zs.drop 20) := fun z hz => by
      rcases List.mem_append.1 hz with h | h
      · exact headZ_bd _ _ _ _ _ _ z h
      · exact HZ.out z (List.mem_of_mem_drop h)
    have cP := conv_bts w3 (some ⟨g, 0, none⟩) n gc (wantZ zs ++ zs.drop 20) (by rw [List.length_append, List.length_drop, show (wantZ zs).length = 20 from rfl]; omega) ho.bts bW
    have cB := conv_bts w3 (some ⟨b, off, none⟩) n cap zs hl (HBt.out.below hw3) HZ.out
    have hq : ((strOf (wantZ zs ++ zs.drop 20)).toList == (strOf zs).toList) = decide (zs.take 20 = wantZ zs) := by
      rw [strOf_eq _ _ bW HZ.out]; exact decide_eq_decide.2 (whole_iff zs)
    have HT8 : Hid (zs.take 8 = (wantZ zs).take 8) := HT.out
    have HQ1 : Hid (¬ zs.take 20 = wantZ zs → getE zs = 4) := fun h => getE_sum (by omega) (by omega) HT8.out h
    have HQ2 : Hid (zs.take 20 = wantZ zs → getE zs = 0) := fun h => getE_ok (by omega) (by omega) HT8.out h
    have HBA : Hid (Bts w3 a' (zs.drop 20)) := hBA
    have HFN : Hid ((a' = none → cp' = 0) ∧ n - 20 ≤ cp' ∧ (∀ ad, a' = some ad → W.heap.size ≤ ad.block) ∧ Below W.heap.size W wc) := hfin
    have HW3 : Hid (Below w.heap.size w w3.drew) := hw3.drew
    have HNE : Hid (∀ ad, a' = some ad → w.heap.size < ad.block) := fun ad h => by have h1 := HFN.out.2.2.1 ad h; omega
    clear hBA hfin hG hWx hk hb3 hw3 x0 x1 x2 x3 x4 ho hl hsz hWe hW HC HBt HZ H8 H9 bW HW0 HT HT8
    obtain ⟨y0, y1, y2, y3, y4⟩ := hX2
    obtain ⟨x0, x1, x2, x3, x4⟩ := hX6
    obtain ⟨r, hr⟩ : ∃ r, decide (zs.take 20 = wantZ zs) = r := ⟨_, rfl⟩
    rw [hr] at hq
    generalize strOf (wantZ zs ++ zs.drop 20) = s1 at *
    generalize strOf zs = s2 at *
    cases r with
    | false =>
      have HE : Hid (getE zs = 4) := HQ1.out (of_decide_eq_false hr)
      clear hr HQ1 HQ2
      go_wp2
      have hV := box_set (t := 0) (p := 0) (s := 0) (d := 0) (v := (.slice none 0 0)) y0 y1 y2 y3 y4
      have hK : Below w.heap.size w (((((w3.setCell ⟨w.heap.size, 0, none⟩ (.int .i64 0)).setCell ⟨w.heap.size, 1, none⟩ (.int .i64 0)).setCell ⟨w.heap.size, 2, none⟩ (.int .i64 0)).setCell ⟨w.heap.size, 3, none⟩ (.int .i64 0)).setCell ⟨w.heap.size, 4, none⟩ (.slice none 0 0)) := store5_below HW3.out (Nat.le_refl _)
      generalize (((((w3.setCell ⟨w.heap.size, 0, none⟩ (.int .i64 0)).setCell ⟨w.heap.size, 1, none⟩ (.int .i64 0)).setCell ⟨w.heap.size, 2, none⟩ (.int .i64 0)).setCell ⟨w.heap.size, 3, none⟩ (.int .i64 0)).setCell ⟨w.heap.size, 4, none⟩ (.slice none 0 0)) = V at *
      obtain ⟨v0, v1, v2, v3, v4⟩ := hV
      (try simp only [Exit.inBlock, Exit.then])
      refine bodyPost_ret (by simp [results, Tryd.results12, go_sem, v0, v1, v2, v3, v4]; try rfl) rfl ?_
      exact ⟨.inr ⟨by rw [HE.out]; decide, by rw [HE.out]⟩, hK⟩
    | true =>
      have HE : Hid (getE zs = 0) := HQ2.out (of_decide_eq_true hr)
      clear hr HQ1 HQ2
      go_wp2
      have hV := box_set (t := (getT zs)) (p := (getP zs)) (s := (getS zs)) (d := (getA zs)) (v := (.slice a' (n - 20) cp')) y0 y1 y2 y3 y4
      have hK : Below w.heap.size w (((((w3.setCell ⟨w.heap.size, 0, none⟩ (.int .i64 (getT zs))).setCell ⟨w.heap.size, 1, none⟩ (.int .i64 (getP zs))).setCell ⟨w.heap.size, 2, none⟩ (.int .i64 (getS zs))).setCell ⟨w.heap.size, 3, none⟩ (.int .i64 (getA zs))).setCell ⟨w.heap.size, 4, none⟩ (.slice a' (n - 20) cp')) := store5_below HW3.out (Nat.le_refl _)
      have hA : Bts (((((w3.setCell ⟨w.heap.size, 0, none⟩ (.int .i64 (getT zs))).setCell ⟨w.heap.size, 1, none⟩ (.int .i64 (getP zs))).setCell ⟨w.heap.size, 2, none⟩ (.int .i64 (getS zs))).setCell ⟨w.heap.size, 3, none⟩ (.int .i64 (getA zs))).setCell ⟨w.heap.size, 4, none⟩ (.slice a' (n - 20) cp')) a' (zs.drop 20) := bts_set (bts_set (bts_set (bts_set (bts_set HBA.out HNE.out) HNE.out) HNE.out) HNE.out) HNE.out
      generalize (((((w3.setCell ⟨w.heap.size, 0, none⟩ (.int .i64 (getT zs))).setCell ⟨w.heap.size, 1, none⟩ (.int .i64 (getP zs))).setCell ⟨w.heap.size, 2, none⟩ (.int .i64 (getS zs))).setCell ⟨w.heap.size, 3, none⟩ (.int .i64 (getA zs))).setCell ⟨w.heap.size, 4, none⟩ (.slice a' (n - 20) cp')) = V at *
      obtain ⟨v0, v1, v2, v3, v4⟩ := hV
      (try simp only [Exit.inBlock, Exit.then])
      refine bodyPost_ret (by simp [results, Tryd.results12, go_sem, v0, v1, v2, v3, v4]; try rfl) rfl ?_
      exact ⟨.inl ⟨HE.out, _, _, rfl, hA, HFN.out.1, HFN.out.2.1⟩, hK⟩
end Go.Proofs.YtknpgpmckabmbaaDoor
