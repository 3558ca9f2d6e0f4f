/- Bytes that lie somewhere; what is of no program. -/
import Derived.Test.YtgljblnegiadlaaRows
import Derived.Test.YtgljblnegiadlaaS2P
import Derived.Test.YtgljblnegiadlaaB1
import Derived.WalkKit
import Derived.WalkSpells
namespace Go.Proofs.Ytgljblnegiadlaa
open Go.RowKit

theorem ret_int {k : IntKind} {a b : Int} (h : a = b) : Ending.returned (.int k a) = .returned (.int k b) := by rw [h]
theorem ret_bool {a b : Bool} (h : a = b) : Ending.returned (.bool a) = .returned (.bool b) := by rw [h]
theorem ret_two {a b c d : Int} (h : a = b) (h' : c = d) : Ending.returned (.tuple #[.int .i64 a, .int .i64 c]) = .returned (.tuple #[.int .i64 b, .int .i64 d]) := by rw [h, h']

/-- The bytes zs lie at that address (at whatever one, where there are none). -/
def Bts (w : World) (a : Option Addr) (zs : List Int) : Prop :=
  zs = [] ∨ ∃ b off, a = some ⟨b, off, none⟩ ∧ ∀ i, i < zs.length → w.cell? ⟨b, off + i, none⟩ = some (.int .u8 (zs.getD i 0))
def AreBytes (zs : List Int) : Prop := ∀ z ∈ zs, 0 ≤ z ∧ z ≤ 255
theorem Bts.below {w w' : World} {a : Option Addr} {zs : List Int} (h : Bts w a zs) (hb : Below w.heap.size w w') : Bts w' a zs := by
  rcases h with h | ⟨b, off, rfl, hc⟩
  · exact .inl h
  · refine .inr ⟨b, off, rfl, fun i hi => ?_⟩
    have := hc i hi
    rw [hb.cell (by
      show b < _
      rcases Nat.lt_or_ge b w.heap.size with h | h
      · exact h
      · simp [World.cell?, Array.getElem?_eq_none h] at this)]
    exact this
theorem Bts.tail4 {w : World} {b off c : Nat} {x0 x1 x2 x3 : Int} {rs : List Int} (h : Bts w (some ⟨b, off, none⟩) (x0 :: x1 :: x2 :: x3 :: rs)) (hc : rs.length ≤ c - 4) :
    Bts w (if c = 4 then some ⟨b, off, none⟩ else some ⟨b, off + 4, none⟩) rs := by
  rcases h with h | ⟨b', off', e, hcell⟩
  · cases h
  · by_cases h4 : c = 4
    · exact .inl (List.eq_nil_of_length_eq_zero (by omega))
    · simp only [Option.some.injEq, Addr.mk.injEq] at e
      obtain ⟨rfl, rfl, _⟩ := e
      refine .inr ⟨b, off + 4, by rw [if_neg h4], fun i hi => ?_⟩
      have := hcell (i + 4) (by simp; omega)
      rw [show off + 4 + i = off + (i + 4) by omega, this]; simp
def lenOf : Value → Nat | .slice _ n _ => n | _ => 0
theorem words_step {s x0 x1 x2 x3 W : Int} {rs : List Int} (h : s + wordsZ (x0 :: x1 :: x2 :: x3 :: rs) = W) : s + (x0 * 256 + x1 + x2 * 256 + x3) + wordsZ rs = W := by
  simp only [wordsZ] at h; omega
theorem list0 {rs : List Int} (h : rs.length = 0) : rs = [] := List.eq_nil_of_length_eq_zero h
theorem list1 {rs : List Int} (h : rs.length = 1) : ∃ a, rs = [a] := by
  match rs, h with
  | [a], _ => exact ⟨a, rfl⟩
theorem list2 {rs : List Int} (h : rs.length = 2) : ∃ a b, rs = [a, b] := by
  match rs, h with
  | [a, b], _ => exact ⟨a, b, rfl⟩
theorem list3 {rs : List Int} (h : rs.length = 3) : ∃ a b c, rs = [a, b, c] := by
  match rs, h with
  | [a, b, c], _ => exact ⟨a, b, c, rfl⟩
theorem list4 {rs : List Int} (h : 4 ≤ rs.length) : ∃ a b c d r, rs = a :: b :: c :: d :: r := by
  match rs, h with
  | a :: b :: c :: d :: r, _ => exact ⟨a, b, c, d, r, rfl⟩

theorem areBytes_getD {zs : List Int} (h : AreBytes zs) (k : Nat) : 0 ≤ zs.getD k 0 ∧ zs.getD k 0 ≤ 255 := by
  rcases Nat.lt_or_ge k zs.length with hk | hk
  · rw [List.getD_eq_getElem?_getD, List.getElem?_eq_getElem hk]; exact h _ (List.getElem_mem hk)
  · rw [List.getD_eq_getElem?_getD, List.getElem?_eq_none hk]; simp
theorem areBytes_take {zs : List Int} (h : AreBytes zs) (k : Nat) : AreBytes (zs.take k) := fun z hz => h z (List.mem_of_mem_take hz)
end Go.Proofs.Ytgljblnegiadlaa
