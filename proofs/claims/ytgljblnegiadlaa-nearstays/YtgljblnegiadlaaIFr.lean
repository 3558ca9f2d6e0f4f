/- What came in, opened: lists, structs of numbers; of no type of the program's but int. -/
import Derived.Test.YtgljblnegiadlaaBGr
import Derived.Test.YtgljblnegiadlaaLI
namespace Go.Proofs.Ytgljblnegiadlaa
open Go.ChangeShapes Go.WideShapes Go.ChangeAt Go.RowKit

theorem pick_list {α : Type} {Q : Nat → α → Prop} : ∀ n : Nat, (∀ i, i < n → ∃ x, Q i x) → ∃ l : List α, l.length = n ∧ ∀ (i : Nat) (h : i < l.length), Q i l[i]
  | 0, _ => ⟨[], rfl, fun i h => by simp at h⟩
  | n + 1, h => by
    obtain ⟨l, hl, hq⟩ := pick_list n (fun i hi => h i (by omega))
    obtain ⟨x, hx⟩ := h n (by omega)
    refine ⟨l ++ [x], by simp [hl], fun i hi => ?_⟩
    by_cases hlt : i < l.length
    · rw [List.getElem_append_left hlt]; exact hq i hlt
    · have : i = l.length := by simp at hi; omega
      subst this
      simp
      rw [hl]; exact hx
theorem lies_of {α : Type} {w : World} {base : Nat} {x : Addr} (f : α → List Value) (m : Nat) (hf : ∀ y, (f y).length = m) (hm : 0 < m) {l : List α}
    (hc : ∀ (i : Nat) (h : i < l.length), w.cells? base (x.add (i * m)) m = some (f l[i])) : Lies w (some x) (cellsOf f l) := by
  rcases l with _ | ⟨y, l⟩
  · exact .inl rfl
  · obtain ⟨b, off, spot⟩ := x
    have h0 := (World.cells?_some (hc 0 (by simp))).2.2 0 hm
    have hs : spot = none := by
      have hv : ∃ v, w.cell? ((Addr.add ⟨b, off, spot⟩ (0 * m)).add 0) = some v := by
        rw [h0]; exact ⟨_, List.getElem?_eq_getElem (by rw [hf]; exact hm)⟩
      obtain ⟨v, hv⟩ := hv
      simpa [Addr.add] using World.cell?_spot hv
    subst hs
    refine .inr ⟨b, off, rfl, fun j hj => ?_⟩
    rw [cellsOf_length f m hf] at hj
    have hd : j / m < (y :: l).length := Nat.div_lt_of_lt_mul (by rw [Nat.mul_comm]; exact hj)
    have hr : j % m < m := Nat.mod_lt _ hm
    have e : j = j / m * m + j % m := by rw [Nat.mul_comm]; exact (Nat.div_add_mod j m).symm
    have h1 := (World.cells?_some (hc (j / m) hd)).2.2 (j % m) hr
    rw [addr_add, addr_add] at h1
    conv => lhs; rw [e]
    conv => rhs; rw [e]
    rw [cellsOf_at f m hf _ _ _ hd hr, ← h1, Nat.add_assoc]
section
variable {H : Type} {enc : TypeId × Value → H} {W : World} {base : Nat} {spare : Nat → Bool} {held : Bool}
theorem open_list {α : Type} (f : α → List Value) (m : Nat) (hf : ∀ y, (f y).length = m) (hm : 0 < m) {t e : TypeId} {fuel : Nat} {cs : List Value} {x : DataW H × List MemPlace} (ht : Try.prog.underlying t = some (.slice e)) (hc : Try.prog.cellsOf e = m)
    (hel : ∀ n cs y, DataW.trod enc Try.prog W base spare held n e cs = some y → ∃ z : α, cs = f z)
    (h : DataW.trod enc Try.prog W base spare held fuel t cs = some x) :
    ∃ (a : Option Addr) (cap : Nat) (l : List α), cs = [.slice a l.length cap] ∧ Lies W a (cellsOf f l) ∧ (a = none → cap = 0) ∧ l.length ≤ maxLen := by
  rcases DataW.trod_slice ht h with ⟨h0, _⟩ | ⟨a, len, cap, elems, rest, n, _, rfl, _, _, hl, hcap, hlen, he, _, _⟩
  · exact ⟨none, 0, [], h0, .inl rfl, fun _ => rfl, by simp⟩
  · obtain ⟨l, hll, hq⟩ := pick_list (Q := fun i z => W.cells? base (a.add (i * m)) m = some (f z)) len (fun i hi => by
      have h1 := he i hi
      rw [hc, List.getElem?_eq_getElem (by omega), Option.bind_eq_some_iff] at h1
      obtain ⟨cs', h2, h3⟩ := h1
      obtain ⟨z, rfl⟩ := hel _ _ _ h3
      exact ⟨z, h2⟩)
    refine ⟨some a, cap, l, by rw [hll], lies_of f m hf hm hq, (fun h => by cases h), by omega⟩
theorem one_int {n i : Nat} {cs : List Value} {y : DataW H × List MemPlace} (h : DataW.trod enc Try.prog W base spare held n 3 ((cs.drop i).take 1) = some y) : ∃ k : Int, cs[i]? = some (.int .i64 k) := by
  obtain ⟨k, hk, _⟩ := DataW.trod_int Try.underlying3 h
  refine ⟨k, ?_⟩
  have := congrArg (fun l : List Value => l[0]?) hk
  simpa [List.getElem?_take, List.getElem?_drop] using this
theorem field_at {fs : Array Field} {i ty off : Nat} (h : (fs[i]?).map (fun f => (f.type, f.offset)) = some (ty, off)) : ∃ f, fs[i]? = some f ∧ f.type = ty ∧ f.offset = off := by
  obtain ⟨f, hf, e⟩ := Option.map_eq_some_iff.1 h
  simp only [Prod.mk.injEq] at e
  exact ⟨f, hf, e.1, e.2⟩
theorem cells_int : Try.prog.cellsOf 3 = 1 := by kernel_rfl
/-- A struct whose fields are all of type int. -/
theorem int_struct {t : TypeId} {fs : Array Field} {n : Nat} (ht : Try.prog.underlying t = some (.struct fs)) (hsz : fs.size = n) (hg : ∀ i, i < n → (fs[i]?).map (fun f => (f.type, f.offset)) = some (3, i))
    {fuel : Nat} {cs : List Value} {x : DataW H × List MemPlace} (h : DataW.trod enc Try.prog W base spare held fuel t cs = some x) : ∀ i, i < n → ∃ k : Int, cs[i]? = some (.int .i64 k) := by
  obtain ⟨xs, m, _, _, _, hlen, hall⟩ := DataW.trod_struct ht h
  intro i hi
  obtain ⟨f, hf, h1, h2⟩ := field_at (hg i hi)
  have h3 := hall i f hf
  rw [h1, h2, cells_int, List.getElem?_eq_getElem (by omega)] at h3
  exact one_int h3
theorem trod_len {t : TypeId} {fs : Array Field} (ht : Try.prog.underlying t = some (.struct fs)) {fuel : Nat} {cs : List Value} {x : DataW H × List MemPlace} (h : DataW.trod enc Try.prog W base spare held fuel t cs = some x) : cs.length = Try.prog.cellsOf t := by
  obtain ⟨_, _, _, _, h1, _⟩ := DataW.trod_struct ht h; exact h1
end
end Go.Proofs.Ytgljblnegiadlaa
