/- Contracts of package addr's Text and of the document's Text. -/
import Derived.Test.YtjnmaplkikbjjaaDoorW3
import Derived.Test.YtjnmaplkikbjjaaDoorShelf
import Derived.WalkSmall
import Derived.Lib.SmallJoins
namespace Go.Proofs.YtjnmaplkikbjjaaDoor
open Go.RowKit

/-- What the library's own variables hold: the powers of ten, the two errors, some number. -/
structure Env (w : World) : Prop where
  tab : Lib.TabIs Tryd.prog w "internal/strconv.uint64pow10" .u64 Lib.pow10Tab
  es : ∃ tp p, w.var? Tryd.prog "strconv.ErrSyntax" = some #[.iface tp p]
  er : ∃ tp p, w.var? Tryd.prog "strconv.ErrRange" = some #[.iface tp p]
  ml : ∃ m, w.cell? ⟨3, 0, none⟩ = some (.int .i64 m)
  sz : 8 ≤ w.heap.size
theorem gTab : Tryd.prog.globalNamed "internal/strconv.uint64pow10" = some 2 := by kernel_rfl
theorem gES : Tryd.prog.globalNamed "strconv.ErrSyntax" = some 0 := by kernel_rfl
theorem gER : Tryd.prog.globalNamed "strconv.ErrRange" = some 1 := by kernel_rfl
theorem Env.below {w w' : World} {B : Nat} (h : Env w) (hb : Below B w w') (hB : 8 ≤ B) : Env w' where
  tab := var?_below hb gTab (by omega) h.tab
  es := let ⟨tp, p, e⟩ := h.es; ⟨tp, p, var?_below hb gES (by omega) e⟩
  er := let ⟨tp, p, e⟩ := h.er; ⟨tp, p, var?_below hb gER (by omega) e⟩
  ml := let ⟨m, e⟩ := h.ml; ⟨m, (hb.cell (p := ⟨3, 0, none⟩) (show 3 < B by omega)).trans e⟩
  sz := Nat.le_trans h.sz hb.size
theorem below_growN (w : World) (k : Nat) (os : Array Obj) : Below w.heap.size w (Sort.grow (w.drewN k) os) where
  os := rfl
  tape := rfl
  output := rfl
  size := by simp [Sort.grow, World.drewN]
  block := fun k hk => by simp [Sort.grow, World.drewN, Array.getElem?_append_left hk]

/-- A byte of a number. -/
def byt (a : Int) (j : Nat) : Int := a / 2 ^ (24 - 8 * j) % 256
def partS (a : Int) (j : Nat) : ByteArray := ⟨(Lib.itoa (byt a j)).toArray⟩
def partK (a : Int) (k j : Nat) : ByteArray := if j < k then partS a j else ⟨#[]⟩

/-- The four parts in their block, k of them laid. -/
def Parts (a : Int) (k b : Nat) (W : World) : Prop := ∀ j, j < 4 → W.cell? ⟨b, j, none⟩ = some (.string (partK a k j)) ∧ W.frozen? ⟨b, j, none⟩ = false
theorem parts_zero (a : Int) (w : World) : Parts a 0 w.heap.size (w.alloc (Obj.cells #[.string ⟨#[]⟩, .string ⟨#[]⟩, .string ⟨#[]⟩, .string ⟨#[]⟩] 46)) := by
  intro j hj
  have h4 : j = 0 ∨ j = 1 ∨ j = 2 ∨ j = 3 := by omega
  rcases h4 with rfl | rfl | rfl | rfl <;> simp [partK]
theorem Parts.below {a : Int} {k b : Nat} {W W' : World} (h : Parts a k b W) (hb : Below W.heap.size W W') (hz : b < W.heap.size) : Parts a k b W' := fun j hj =>
  ⟨(hb.cell (p := ⟨b, j, none⟩) hz).trans (h j hj).1, (hb.frozen (p := ⟨b, j, none⟩) hz).trans (h j hj).2⟩
theorem Parts.step {a : Int} {k b : Nat} {W : World} (h : Parts a k b W) (hk : k < 4) : Parts a (k + 1) b (W.setCell ⟨b, k, none⟩ (.string (partS a k))) := fun j hj => by
  refine ⟨?_, (World.frozen?_setCell _ _ _ _).trans (h j hj).2⟩
  by_cases e : j = k
  · subst e
    rw [World.cell?_setCell_same _ _ _ (h j hj).1]
    simp [partK]
  · rw [World.cell?_setCell_other _ _ _ _ (by intro x; apply e; injection x with x1 x2; exact x2.symm), (h j hj).1]
    unfold partK
    by_cases l : j < k
    · rw [if_pos l, if_pos (by omega)]
    · rw [if_neg l, if_neg (by omega)]
theorem itoa_len (n : Int) (h0 : 0 ≤ n) (h1 : n < 1000) : (Lib.itoa n).length ≤ 3 := by
  unfold Lib.itoa
  rw [if_neg (by omega), Lib.decDigits_length]
  by_cases h : n.toNat < 10
  · rw [Lib.nDigits_small h]; omega
  · by_cases h' : n.toNat < 100
    · rw [Lib.nDigits_unique 1 n.toNat (by omega) (by omega)]; omega
    · rw [Lib.nDigits_unique 2 n.toNat (by omega) (by omega)]; omega
theorem byt_bd (a : Int) (j : Nat) : 0 ≤ byt a j ∧ byt a j < 256 := by unfold byt; omega
theorem part_len (a : Int) (j : Nat) : (partS a j).data.toList.length ≤ 3 := by
  have := byt_bd a j
  have := itoa_len (byt a j) (by omega) (by omega)
  simpa [partS] using this

/-- An address's text, as its bytes. -/
def textL (a : Int) : List UInt8 := Lib.join ([partS a 0, partS a 1, partS a 2, partS a 3].map (·.data.toList)) [46]
theorem textL_len (a : Int) : (textL a).length ≤ 15 := by
  have h0 := part_len a 0
  have h1 := part_len a 1
  have h2 := part_len a 2
  have h3 := part_len a 3
  unfold textL
  rw [List.map_cons, Lib.join_length]
  simp only [Lib.lens, List.map_cons, List.map_nil, List.sum_cons, List.sum_nil, List.length_cons, List.length_nil]
  omega

set_option maxRecDepth 100000 in
set_option maxHeartbeats 1600000 in
theorem text_any (a : Int) (w : World) (E : Env w) :
    Calls Tryd.prog 22 #[.int .i64 a] w fun e w' => e = .returned (.string ⟨(textL a).toArray⟩) ∧ Below w.heap.size w w' := by
  go_enter Tryd.func22, Tryd.ntmps22
  go_wp2
  go_loopw [5] (fun i wr => ∃ k : Nat, k ≤ 4 ∧ i = .int .i64 k ∧ Below w.heap.size w wr ∧ w.heap.size < wr.heap.size ∧ Parts a k w.heap.size wr) (fun i _ => 4 - (intOf i).toNat)
  case atStart => exact ⟨0, by omega, rfl, (Below.refl _ _).alloc (Nat.le_refl _) _, by simp, parts_zero a w⟩
  case round =>
    obtain ⟨k, hk, rfl, hb, hz, H⟩ := hrel
    have E1 := E.below hb E.sz
    by_cases hlt : k < 4
    · have h4 : k = 0 ∨ k = 1 ∨ k = 2 ∨ k = 3 := by omega
      rcases h4 with rfl | rfl | rfl | rfl
      all_goals
        go_wp2_with fail
        rw [and_255]
        refine (Tryd.strconv_Itoa _ (by omega) (by omega) _ E1.tab).mono ?_
        rintro e w1 ⟨rfl, k1, os1, hw1⟩
        have hb1 : Below wr.heap.size wr w1 := by rw [hw1]; exact below_growN _ _ _
        clear hw1
        have H1 := H.below hb1 hz
        have hz1 : w.heap.size < w1.heap.size := Nat.lt_of_lt_of_le hz hb1.size
      · have c1 := (H1 0 (by omega)).1
        have f1 := (H1 0 (by omega)).2
        have h1 := H1.step (k := 0) (by omega)
        rw [show partS a 0 = ⟨(Lib.itoa (a / 16777216 % 256)).toArray⟩ by simp [partS, byt]] at h1
        have HH : Hid (Parts a 1 w.heap.size (w1.setCell ⟨w.heap.size, 0, none⟩ (.string ⟨(Lib.itoa (a / 16777216 % 256)).toArray⟩))) := h1
        clear h1
        go_wp2
        exact ⟨⟨1, by omega, rfl, (hb.trans (hb1.mono (by omega))).setCell (Nat.le_refl _) _, by simpa [World.setCell] using hz1, HH.out⟩, by simp [intOf]⟩
      · have c1 := (H1 1 (by omega)).1
        have f1 := (H1 1 (by omega)).2
        have h1 := H1.step (k := 1) (by omega)
        rw [show partS a 1 = ⟨(Lib.itoa (a / 65536 % 256)).toArray⟩ by simp [partS, byt]] at h1
        have HH : Hid (Parts a 2 w.heap.size (w1.setCell ⟨w.heap.size, 1, none⟩ (.string ⟨(Lib.itoa (a / 65536 % 256)).toArray⟩))) := h1
        clear h1
        go_wp2
        exact ⟨⟨2, by omega, rfl, (hb.trans (hb1.mono (by omega))).setCell (Nat.le_refl _) _, by simpa [World.setCell] using hz1, HH.out⟩, by simp [intOf]⟩
      · have c1 := (H1 2 (by omega)).1
        have f1 := (H1 2 (by omega)).2
        have h1 := H1.step (k := 2) (by omega)
        rw [show partS a 2 = ⟨(Lib.itoa (a / 256 % 256)).toArray⟩ by simp [partS, byt]] at h1
        have HH : Hid (Parts a 3 w.heap.size (w1.setCell ⟨w.heap.size, 2, none⟩ (.string ⟨(Lib.itoa (a / 256 % 256)).toArray⟩))) := h1
        clear h1
        go_wp2
        exact ⟨⟨3, by omega, rfl, (hb.trans (hb1.mono (by omega))).setCell (Nat.le_refl _) _, by simpa [World.setCell] using hz1, HH.out⟩, by simp [intOf]⟩
      · have c1 := (H1 3 (by omega)).1
        have f1 := (H1 3 (by omega)).2
        have h1 := H1.step (k := 3) (by omega)
        rw [show partS a 3 = ⟨(Lib.itoa (a % 256)).toArray⟩ by simp [partS, byt]] at h1
        have HH : Hid (Parts a 4 w.heap.size (w1.setCell ⟨w.heap.size, 3, none⟩ (.string ⟨(Lib.itoa (a % 256)).toArray⟩))) := h1
        clear h1
        go_wp2
        exact ⟨⟨4, by omega, rfl, (hb.trans (hb1.mono (by omega))).setCell (Nat.le_refl _) _, by simpa [World.setCell] using hz1, HH.out⟩, by simp [intOf]⟩
    · obtain rfl : k = 4 := by omega
      have hl := textL_len a
      go_wp2_with fail
      refine (Tryd.strings_Join w.heap.size 0 4 [partS a 0, partS a 1, partS a 2, partS a 3] ⟨#[46]⟩ wr ?_ hz (by simp) (by simp) (Nat.le_trans hl (by omega))).mono ?_
      · intro j x hx
        have hj : j < 4 := by
          have := (List.getElem?_eq_some_iff.1 hx).1
          simpa using this
        rw [Nat.zero_add, (H j hj).1]
        have h4 : j = 0 ∨ j = 1 ∨ j = 2 ∨ j = 3 := by omega
        rcases h4 with rfl | rfl | rfl | rfl <;> simp at hx <;> subst hx <;> simp [partK]
      · rintro e w1 ⟨rfl, hb1⟩
        go_wp2
        go_ret
        exact ⟨rfl, hb.trans (hb1.mono (by omega))⟩
end Go.Proofs.YtjnmaplkikbjjaaDoor
