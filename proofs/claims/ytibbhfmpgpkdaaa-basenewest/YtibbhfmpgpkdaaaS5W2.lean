/- Rows of structs that lie somewhere; the lists of an advertisement, asked one by one. -/
import Derived.Test.YtibbhfmpgpkdaaaS5W1
import Derived.Test.YtibbhfmpgpkdaaaOC
namespace Go.Proofs.Ytibbhfmpgpkdaaa
open Go.RowKit

/-- The cells vs lie at that address (at whatever one, where there are none). -/
def Lies (w : World) (a : Option Addr) (vs : List Value) : Prop :=
  vs = [] ∨ ∃ b off, a = some ⟨b, off, none⟩ ∧ ∀ i, i < vs.length → w.cell? ⟨b, off + i, none⟩ = vs[i]?
theorem Lies.below {w w' : World} {a : Option Addr} {vs : List Value} (h : Lies w a vs) (hb : Below w.heap.size w w') : Lies w' a vs := by
  rcases h with h | ⟨b, off, rfl, hc⟩
  · exact .inl h
  · refine .inr ⟨b, off, rfl, fun i hi => ?_⟩
    have := hc i hi
    rw [hb.cell (by
      show b < _
      rcases Nat.lt_or_ge b w.heap.size with h | h
      · exact h
      · simp [World.cell?, Array.getElem?_eq_none h] at this
        exact absurd this (by simp [hi]))]
    exact this
theorem Lies.belowN {w w' : World} {N : Nat} {a : Option Addr} {vs : List Value} (h : Lies w a vs) (hb : Below N w w') (hN : w.heap.size ≤ N) : Lies w' a vs := h.below (hb.mono hN)
def linkC (k : LinkZ) : List Value := [.int .i64 k.kind, .int .i64 k.id, .int .i64 k.data, .int .i64 k.cost]
def vertC (k : VertZ) : List Value := [.int .i64 k.kind, .int .i64 k.id]
def intC (k : Int) : List Value := [.int .i64 k]
def cellsOf {α : Type} (f : α → List Value) (l : List α) : List Value := l.flatMap f
theorem cellsOf_length {α : Type} (f : α → List Value) (m : Nat) (hf : ∀ x, (f x).length = m) (l : List α) : (cellsOf f l).length = l.length * m := by
  induction l with
  | nil => simp [cellsOf]
  | cons x l ih => simp only [cellsOf, List.flatMap_cons, List.length_append, List.length_cons] at *; rw [ih, hf, Nat.add_mul]; omega
theorem cellsOf_at {α : Type} (f : α → List Value) (m : Nat) (hf : ∀ x, (f x).length = m) (l : List α) (i j : Nat) (hi : i < l.length) (hj : j < m) : (cellsOf f l)[i * m + j]? = (f l[i])[j]? := by
  induction l generalizing i with
  | nil => simp at hi
  | cons x l ih =>
    simp only [cellsOf, List.flatMap_cons]
    rcases i with _ | i
    · rw [Nat.zero_mul, Nat.zero_add, List.getElem?_append_left (by rw [hf]; exact hj)]; rfl
    · rw [List.getElem?_append_right (by rw [hf, Nat.add_mul]; omega), hf, show (i + 1) * m + j - m = i * m + j by rw [Nat.add_mul]; omega]
      exact ih i (by simpa using hi)
/-- A list of things of m cells each. -/
theorem Lies.cell {α : Type} {w : World} {a : Option Addr} (f : α → List Value) (m : Nat) (hf : ∀ x, (f x).length = m) {l : List α} (h : Lies w a (cellsOf f l)) (hl : l ≠ []) (hm : 0 < m) :
    ∃ b off, a = some ⟨b, off, none⟩ ∧ ∀ (i j : Nat) (hi : i < l.length), j < m → w.cell? ⟨b, off + (i * m + j), none⟩ = (f l[i])[j]? := by
  rcases h with h | ⟨b, off, rfl, hc⟩
  · exfalso
    have := cellsOf_length f m hf l
    rw [h] at this
    rcases l with _ | ⟨x, l⟩
    · exact hl rfl
    · simp [Nat.add_mul] at this; omega
  · refine ⟨b, off, rfl, fun i j hi hj => ?_⟩
    rw [hc _ (by rw [cellsOf_length f m hf]; exact Nat.lt_of_lt_of_le (Nat.add_lt_add_left hj _) (by rw [← Nat.succ_mul]; exact Nat.mul_le_mul_right _ hi)), cellsOf_at f m hf l i j hi hj]
theorem Links.cells {w : World} {a : Option Addr} {l : List LinkZ} (h : Lies w a (cellsOf linkC l)) (i : Nat) (hi : i < l.length) :
    ∃ b off, a = some ⟨b, off, none⟩ ∧ w.cell? ⟨b, off + i * 4, none⟩ = some (.int .i64 l[i].kind) ∧ w.cell? ⟨b, off + i * 4 + 1, none⟩ = some (.int .i64 l[i].id) ∧ w.cell? ⟨b, off + i * 4 + 2, none⟩ = some (.int .i64 l[i].data) ∧ w.cell? ⟨b, off + i * 4 + 3, none⟩ = some (.int .i64 l[i].cost) := by
  obtain ⟨b, off, rfl, hc⟩ := h.cell linkC 4 (fun _ => rfl) (by rintro rfl; simp at hi) (by omega)
  exact ⟨b, off, rfl, hc i 0 hi (by omega), hc i 1 hi (by omega), hc i 2 hi (by omega), hc i 3 hi (by omega)⟩
theorem Verts.cells {w : World} {a : Option Addr} {l : List VertZ} (h : Lies w a (cellsOf vertC l)) (i : Nat) (hi : i < l.length) :
    ∃ b off, a = some ⟨b, off, none⟩ ∧ w.cell? ⟨b, off + i * 2, none⟩ = some (.int .i64 l[i].kind) ∧ w.cell? ⟨b, off + i * 2 + 1, none⟩ = some (.int .i64 l[i].id) := by
  obtain ⟨b, off, rfl, hc⟩ := h.cell vertC 2 (fun _ => rfl) (by rintro rfl; simp at hi) (by omega)
  exact ⟨b, off, rfl, hc i 0 hi (by omega), hc i 1 hi (by omega)⟩
theorem Ints.cells {w : World} {a : Option Addr} {l : List Int} (h : Lies w a (cellsOf intC l)) (i : Nat) (hi : i < l.length) :
    ∃ b off, a = some ⟨b, off, none⟩ ∧ w.cell? ⟨b, off + i, none⟩ = some (.int .i64 l[i]) := by
  obtain ⟨b, off, rfl, hc⟩ := h.cell intC 1 (fun _ => rfl) (by rintro rfl; simp at hi) (by omega)
  have := hc i 0 hi (by omega)
  rw [Nat.mul_one, Nat.add_zero] at this
  exact ⟨b, off, rfl, this⟩

theorem all_take_succ {α : Type} (f : α → Bool) (l : List α) (k : Nat) (hk : k < l.length) : (l.take (k + 1)).all f = ((l.take k).all f && f l[k]) := by
  rw [← List.take_append_getElem hk, List.all_append]; simp
theorem rightListB_long {α : Type} (f : α → Bool) (l : List α) (h : 64 < l.length) : rightListB f l = false := by unfold rightListB; simp; omega
theorem rightListB_all {α : Type} (f : α → Bool) (l : List α) (h : ¬ 64 < l.length) : rightListB f l = l.all f := by unfold rightListB; rw [decide_eq_true (by omega)]; simp
theorem rightListB_not {α : Type} (f : α → Bool) (l : List α) (h : ¬ 64 < l.length) (k : Nat) (hk : k < l.length) (hf : f l[k] = false) : rightListB f l = false := by
  rw [rightListB_all f l h, List.all_eq_false]; exact ⟨_, List.getElem_mem hk, by simp [hf]⟩
theorem rightListB_end {α : Type} (f : α → Bool) (l : List α) (h : ¬ 64 < l.length) (k : Nat) (hk : ¬ k < l.length) (hf : (l.take k).all f = true) : rightListB f l = true := by
  rw [rightListB_all f l h]; rwa [List.take_of_length_le (by omega)] at hf

set_option maxHeartbeats 800000 in
theorem rightLinks_any (a : Option Addr) (n cap : Nat) (l : List LinkZ) (w : World) (hn : n = l.length) (hL : Lies w a (cellsOf linkC l)) (hl : l.length ≤ 140737488355328) :
    Calls Try.prog 86 #[.slice a n cap, .func (.func 87) #[] #[]] w fun e w' => e = .returned (.bool (rightListB rightLinkB l)) ∧ Below w.heap.size w w' := by
  subst hn
  by_cases h64 : 64 < l.length
  · have HR : Hid (_ = _) := rightListB_long rightLinkB l h64
    clear hL
    go_enter Try.func86, Try.ntmps86
    go_wp2
    go_ret
    exact ⟨ret_bool HR.out.symm, Below.refl _ _⟩
  · have HN : Hid (¬ 64 < l.length) := h64
    go_enter Try.func86, Try.ntmps86
    go_wp2
    go_loopw [12] (fun t wr => ∃ k : Nat, k ≤ l.length ∧ t = .int .i64 k ∧ Hid ((l.take k).all rightLinkB = true) ∧ Hid (Below w.heap.size w wr)) (fun t _ => l.length - (intOf t).toNat)
    case atStart => exact ⟨0, by omega, rfl, by show _ = _; simp, Below.refl _ _⟩
    case round =>
      obtain ⟨k, hk, rfl, H, HB⟩ := hrel
      by_cases hlt : k < l.length
      · obtain ⟨b, off, rfl, c0, c1, c2, c3⟩ := Links.cells (hL.below HB.out) k hlt
        go_wp2_with fail
        refine (rightLink_any l[k] _).mono ?_
        rintro e w2 ⟨rfl, hb2⟩
        have HB2 : Hid (Below w.heap.size w w2) := below_more (HB.out.alloc HB.out.size _) hb2 (by have := HB.out.size; simp; omega)
        clear hb2
        cases hb : rightLinkB l[k] with
        | false =>
          go_wp2
          go_ret
          exact ⟨ret_bool (rightListB_not rightLinkB l HN.out k hlt hb).symm, HB2.out⟩
        | true =>
          go_wp2
          go_roundw
          case rel => exact ⟨k + 1, by omega, by go_num, by show _ = _; rw [all_take_succ rightLinkB l k hlt, H.out, hb]; rfl, HB2.out⟩
          case measure => simp [intOf]; omega
      · clear hL
        go_wp2
        go_ret
        exact ⟨ret_bool (rightListB_end rightLinkB l HN.out k hlt H.out).symm, HB.out⟩

set_option maxHeartbeats 800000 in
theorem rightVerts_any (a : Option Addr) (n cap : Nat) (l : List VertZ) (w : World) (hn : n = l.length) (hL : Lies w a (cellsOf vertC l)) (hl : l.length ≤ 140737488355328) :
    Calls Try.prog 89 #[.slice a n cap, .func (.func 90) #[] #[]] w fun e w' => e = .returned (.bool (rightListB rightVertB l)) ∧ Below w.heap.size w w' := by
  subst hn
  by_cases h64 : 64 < l.length
  · have HR : Hid (_ = _) := rightListB_long rightVertB l h64
    clear hL
    go_enter Try.func89, Try.ntmps89
    go_wp2
    go_ret
    exact ⟨ret_bool HR.out.symm, Below.refl _ _⟩
  · have HN : Hid (¬ 64 < l.length) := h64
    go_enter Try.func89, Try.ntmps89
    go_wp2
    go_loopw [12] (fun t wr => ∃ k : Nat, k ≤ l.length ∧ t = .int .i64 k ∧ Hid ((l.take k).all rightVertB = true) ∧ Hid (Below w.heap.size w wr)) (fun t _ => l.length - (intOf t).toNat)
    case atStart => exact ⟨0, by omega, rfl, by show _ = _; simp, Below.refl _ _⟩
    case round =>
      obtain ⟨k, hk, rfl, H, HB⟩ := hrel
      by_cases hlt : k < l.length
      · obtain ⟨b, off, rfl, c0, c1⟩ := Verts.cells (hL.below HB.out) k hlt
        go_wp2_with fail
        refine (rightVert_any l[k] _).mono ?_
        rintro e w2 ⟨rfl, hb2⟩
        have HB2 : Hid (Below w.heap.size w w2) := below_more (HB.out.alloc HB.out.size _) hb2 (by have := HB.out.size; simp; omega)
        clear hb2
        cases hb : rightVertB l[k] with
        | false =>
          go_wp2
          go_ret
          exact ⟨ret_bool (rightListB_not rightVertB l HN.out k hlt hb).symm, HB2.out⟩
        | true =>
          go_wp2
          go_roundw
          case rel => exact ⟨k + 1, by omega, by go_num, by show _ = _; rw [all_take_succ rightVertB l k hlt, H.out, hb]; rfl, HB2.out⟩
          case measure => simp [intOf]; omega
      · clear hL
        go_wp2
        go_ret
        exact ⟨ret_bool (rightListB_end rightVertB l HN.out k hlt H.out).symm, HB.out⟩

set_option maxHeartbeats 800000 in
theorem rightInts_any (a : Option Addr) (n cap : Nat) (l : List Int) (w : World) (hn : n = l.length) (hL : Lies w a (cellsOf intC l)) (hl : l.length ≤ 140737488355328) :
    Calls Try.prog 88 #[.slice a n cap, .func (.func 75) #[] #[]] w fun e w' => e = .returned (.bool (rightListB rightI l)) ∧ Below w.heap.size w w' := by
  subst hn
  by_cases h64 : 64 < l.length
  · have HR : Hid (_ = _) := rightListB_long rightI l h64
    clear hL
    go_enter Try.func88, Try.ntmps88
    go_wp2
    go_ret
    exact ⟨ret_bool HR.out.symm, Below.refl _ _⟩
  · have HN : Hid (¬ 64 < l.length) := h64
    go_enter Try.func88, Try.ntmps88
    go_wp2
    go_loopw [12] (fun t wr => ∃ k : Nat, k ≤ l.length ∧ t = .int .i64 k ∧ Hid ((l.take k).all rightI = true) ∧ Hid (Below w.heap.size w wr)) (fun t _ => l.length - (intOf t).toNat)
    case atStart => exact ⟨0, by omega, rfl, by show _ = _; simp, Below.refl _ _⟩
    case round =>
      obtain ⟨k, hk, rfl, H, HB⟩ := hrel
      by_cases hlt : k < l.length
      · obtain ⟨b, off, rfl, c0⟩ := Ints.cells (hL.below HB.out) k hlt
        go_wp2_with fail
        refine (right_any l[k] _).mono ?_
        rintro e w2 ⟨rfl, rfl⟩
        have HB2 := HB
        cases hb : rightI l[k] with
        | false =>
          go_wp2
          go_ret
          exact ⟨ret_bool (rightListB_not rightI l HN.out k hlt hb).symm, HB2.out⟩
        | true =>
          go_wp2
          go_roundw
          case rel => exact ⟨k + 1, by omega, by go_num, by show _ = _; rw [all_take_succ rightI l k hlt, H.out, hb]; rfl, HB2.out⟩
          case measure => simp [intOf]; omega
      · clear hL
        go_wp2
        go_ret
        exact ⟨ret_bool (rightListB_end rightI l HN.out k hlt H.out).symm, HB.out⟩
end Go.Proofs.Ytibbhfmpgpkdaaa
