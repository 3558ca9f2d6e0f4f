/- Whether two lists are one, as the document says it. -/
import Derived.Test.YtmcemhkhgccojaaY8D
namespace Go.Proofs.Ytmcemhkhgccojaa
open Go.RowKit
set_option linter.unusedVariables false

set_option maxHeartbeats 3200000 in
theorem dInts_any (a b : Option Addr) (n m ca cb : Nat) (x y : List Int) (w : World) (hn : n = x.length) (hm : m = y.length) (hx : Lies w a (cellsOf intC x)) (hy : Lies w b (cellsOf intC y)) (h1 : x.length ≤ 140737488355328) (h2 : y.length ≤ 140737488355328) :
    Calls Try.prog 55 #[.slice a n ca, .slice b m cb] w fun e w' => e = .returned (.bool (decide (x = y))) ∧ Below w.heap.size w w' := by
  subst hn hm
  by_cases hl : x.length = y.length
  · have HL : Hid (x.length = y.length) := hl
    have e0 : (((x.length : Nat) : Int) != ((y.length : Nat) : Int)) = false := by simp [hl]
    have HY : Hid (Lies w b (cellsOf intC y)) := hy
    have HX : Hid (Lies w a (cellsOf intC x)) := hx
    clear hl hx hy
    go_enter Try.func55, Try.ntmps55
    go_wp2
    go_loopw [5] (fun t wr => ∃ k : Nat, k ≤ x.length ∧ t = .int .i64 k ∧ Hid (x.take k = y.take k) ∧ Hid (Below w.heap.size w wr)) (fun t _ => x.length - (intOf t).toNat)
    case atStart => exact ⟨0, by omega, rfl, rfl, Below.refl _ _⟩
    case round =>
      obtain ⟨k, hk, rfl, H, HB⟩ := hrel
      by_cases hlt : k < x.length
      · have hlt2 : k < y.length := by rw [← HL.out]; exact hlt
        obtain ⟨xb, xo, rfl, x0⟩ := Ints.cells (HX.out.below HB.out) k hlt
        obtain ⟨yb, yo, rfl, y0⟩ := Ints.cells (HY.out.below HB.out) k hlt2
        have HD : Hid (Below w.heap.size w wr.drew) := HB.out.drew
        have HNE : Hid (x[k] ≠ y[k] → x ≠ y) := fun h => ne_at hlt hlt2 h
        have HEQ : Hid (x[k] = y[k] → x.take (k + 1) = y.take (k + 1)) := fun h => take_eq_succ x y k hlt hlt2 H.out h
        have HS : Hid (x[k] = y[k] → x[k] = y[k]) := fun h => h
        cases d0 : (x[k] == y[k]) with
        | false =>
          have b0 : (x[k] != y[k]) = true := by rw [bne, d0]; rfl
          have HF : Hid (decide (x = y) = false) := decide_eq_false (HNE.out fun e => by rw [e] at d0; simp at d0)
          go_wp2_with fail
          go_region
          go_wp2
          go_ret
          exact ⟨ret_bool HF.out.symm, HD.out⟩
        | true =>
          have b0 : (x[k] != y[k]) = false := by rw [bne, d0]; rfl
          have HT : Hid (x.take (k + 1) = y.take (k + 1)) := HEQ.out (HS.out (by simpa using d0))
          go_wp2_with fail
          go_region
          go_wp2
          go_roundw
          case rel => exact ⟨k + 1, by omega, by go_num, HT.out, HD.out⟩
          case measure => simp [intOf]; omega
      · have he : x = y := eq_end HL.out (by omega) H.out
        have HE : Hid (decide (x = y) = true) := decide_eq_true he
        clear he
        go_wp2
        go_ret
        exact ⟨ret_bool HE.out.symm, HB.out⟩
  · have e0 : (((x.length : Nat) : Int) != ((y.length : Nat) : Int)) = true := by simp; omega
    have HE : Hid (decide (x = y) = false) := decide_eq_false (by rintro rfl; exact hl rfl)
    clear hl hx hy
    go_enter Try.func55, Try.ntmps55
    go_wp2
    go_ret
    exact ⟨ret_bool HE.out.symm, Below.refl _ _⟩
set_option maxHeartbeats 3200000 in
theorem dVerts_any (a b : Option Addr) (n m ca cb : Nat) (x y : List VertZ) (w : World) (hn : n = x.length) (hm : m = y.length) (hx : Lies w a (cellsOf vertC x)) (hy : Lies w b (cellsOf vertC y)) (h1 : x.length ≤ 140737488355328) (h2 : y.length ≤ 140737488355328) :
    Calls Try.prog 56 #[.slice a n ca, .slice b m cb] w fun e w' => e = .returned (.bool (eqVertsB x y)) ∧ Below w.heap.size w w' := by
  subst hn hm
  by_cases hl : x.length = y.length
  · have HL : Hid (x.length = y.length) := hl
    have e0 : (((x.length : Nat) : Int) != ((y.length : Nat) : Int)) = false := by simp [hl]
    have HY : Hid (Lies w b (cellsOf vertC y)) := hy
    have HX : Hid (Lies w a (cellsOf vertC x)) := hx
    clear hl hx hy
    go_enter Try.func56, Try.ntmps56
    go_wp2
    go_loopw [5] (fun t wr => ∃ k : Nat, k ≤ x.length ∧ t = .int .i64 k ∧ Hid (x.take k = y.take k) ∧ Hid (Below w.heap.size w wr)) (fun t _ => x.length - (intOf t).toNat)
    case atStart => exact ⟨0, by omega, rfl, rfl, Below.refl _ _⟩
    case round =>
      obtain ⟨k, hk, rfl, H, HB⟩ := hrel
      by_cases hlt : k < x.length
      · have hlt2 : k < y.length := by rw [← HL.out]; exact hlt
        obtain ⟨xb, xo, rfl, x0, x1⟩ := Verts.cells (HX.out.below HB.out) k hlt
        obtain ⟨yb, yo, rfl, y0, y1⟩ := Verts.cells (HY.out.below HB.out) k hlt2
        have HD : Hid (Below w.heap.size w wr.drew) := HB.out.drew
        have HNE : Hid (x[k] ≠ y[k] → x ≠ y) := fun h => ne_at hlt hlt2 h
        have HEQ : Hid (x[k] = y[k] → x.take (k + 1) = y.take (k + 1)) := fun h => take_eq_succ x y k hlt hlt2 H.out h
        have HS : Hid (x[k].kind = y[k].kind ∧ x[k].id = y[k].id → x[k] = y[k]) := fun h => VertZ.same h.1 h.2
        cases d0 : (x[k].kind == y[k].kind) with
        | false =>
          have b0 : (x[k].kind != y[k].kind) = true := by rw [bne, d0]; rfl
          have HF : Hid (eqVertsB x y = false) := eqVertsB_f (HNE.out fun e => by rw [e] at d0; simp at d0)
          go_wp2_with fail
          go_region
          go_wp2
          go_ret
          exact ⟨ret_bool HF.out.symm, HD.out⟩
        | true =>
          cases d1 : (x[k].id == y[k].id) with
          | false =>
            have b1 : (x[k].id != y[k].id) = true := by rw [bne, d1]; rfl
            have b0 : (x[k].kind != y[k].kind) = false := by rw [bne, d0]; rfl
            have HF : Hid (eqVertsB x y = false) := eqVertsB_f (HNE.out fun e => by rw [e] at d1; simp at d1)
            go_wp2_with fail
            go_region
            go_wp2
            go_ret
            exact ⟨ret_bool HF.out.symm, HD.out⟩
          | true =>
            have b0 : (x[k].kind != y[k].kind) = false := by rw [bne, d0]; rfl
            have b1 : (x[k].id != y[k].id) = false := by rw [bne, d1]; rfl
            have HT : Hid (x.take (k + 1) = y.take (k + 1)) := HEQ.out (HS.out ⟨(by simpa using d0), (by simpa using d1)⟩)
            go_wp2_with fail
            go_region
            go_wp2
            go_roundw
            case rel => exact ⟨k + 1, by omega, by go_num, HT.out, HD.out⟩
            case measure => simp [intOf]; omega
      · have he : x = y := eq_end HL.out (by omega) H.out
        have HE : Hid (eqVertsB x y = true) := eqVertsB_t he
        clear he
        go_wp2
        go_ret
        exact ⟨ret_bool HE.out.symm, HB.out⟩
  · have e0 : (((x.length : Nat) : Int) != ((y.length : Nat) : Int)) = true := by simp; omega
    have HE : Hid (eqVertsB x y = false) := eqVertsB_f (by rintro rfl; exact hl rfl)
    clear hl hx hy
    go_enter Try.func56, Try.ntmps56
    go_wp2
    go_ret
    exact ⟨ret_bool HE.out.symm, Below.refl _ _⟩
end Go.Proofs.Ytmcemhkhgccojaa
