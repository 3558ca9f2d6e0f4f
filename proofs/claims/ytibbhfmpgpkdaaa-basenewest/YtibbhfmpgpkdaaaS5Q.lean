/- The bytes of advertisements. -/
import Derived.Test.YtibbhfmpgpkdaaaS5P
import Derived.Test.YtibbhfmpgpkdaaaMK
namespace Go.Proofs.Ytibbhfmpgpkdaaa

def headZ (h : HeadZ) : List Int := be2 h.age ++ [0, h.kind % 256] ++ be4 h.id ++ be4 h.adv ++ be4 h.seq ++ be2 h.sum ++ be2 h.len
def linkZ (k : LinkZ) : List Int := be4 k.id ++ be4 k.data ++ [k.kind % 256, 0] ++ be2 k.cost
def vertZ (v : VertZ) : List Int := be4 v.kind ++ be4 v.id
def bodyZ (l : LsaZ) : List Int :=
  if l.head.kind = 1 then ([l.flags % 256, 0] ++ be2 l.links.length) ++ l.links.flatMap linkZ
  else if l.head.kind = 2 then be4 (maskN (clampN l.bits)) ++ l.routers.flatMap be4
  else if l.head.kind = 6 then l.verts.flatMap vertZ else []
def layZ (l : LsaZ) : List Int := headZ l.head ++ bodyZ l
theorem headZ_length (h : HeadZ) : (headZ h).length = 20 := rfl
theorem flat_length {α : Type} (f : α → List Int) (m : Nat) (hf : ∀ x, (f x).length = m) (l : List α) : (l.flatMap f).length = l.length * m := by
  induction l with
  | nil => simp
  | cons x l ih => rw [List.flatMap_cons, List.length_append, List.length_cons, ih, hf, Nat.add_mul]; omega
theorem take_flat {α : Type} (f : α → List Int) (l : List α) (k : Nat) (hk : k < l.length) : (l.take (k + 1)).flatMap f = (l.take k).flatMap f ++ f l[k] := by
  rw [← List.take_append_getElem hk, List.flatMap_append]; simp
theorem flat_bd {α : Type} (f : α → List Int) (hf : ∀ x, ∀ z ∈ f x, 0 ≤ z ∧ z ≤ 255) (l : List α) : ∀ z ∈ l.flatMap f, 0 ≤ z ∧ z ≤ 255 := by
  intro z hz
  obtain ⟨x, _, hx⟩ := List.mem_flatMap.1 hz
  exact hf x z hx
theorem app_bd {a b : List Int} (ha : ∀ z ∈ a, 0 ≤ z ∧ z ≤ 255) (hb : ∀ z ∈ b, 0 ≤ z ∧ z ≤ 255) : ∀ z ∈ a ++ b, 0 ≤ z ∧ z ≤ 255 := by
  intro z hz
  rcases List.mem_append.1 hz with h | h
  · exact ha z h
  · exact hb z h
theorem two_bd {a b : Int} (ha : 0 ≤ a ∧ a ≤ 255) (hb : 0 ≤ b ∧ b ≤ 255) : ∀ z ∈ [a, b], 0 ≤ z ∧ z ≤ 255 := by
  intro z hz; simp at hz; omega
theorem headZ_bd (h : HeadZ) : ∀ z ∈ headZ h, 0 ≤ z ∧ z ≤ 255 :=
  app_bd (app_bd (app_bd (app_bd (app_bd (app_bd (be2_bd _) (two_bd (by omega) (by omega))) (be4_bd _)) (be4_bd _)) (be4_bd _)) (be2_bd _)) (be2_bd _)
theorem linkZ_bd (k : LinkZ) : ∀ z ∈ linkZ k, 0 ≤ z ∧ z ≤ 255 := app_bd (app_bd (app_bd (be4_bd _) (be4_bd _)) (two_bd (by omega) (by omega))) (be2_bd _)
theorem vertZ_bd (k : VertZ) : ∀ z ∈ vertZ k, 0 ≤ z ∧ z ≤ 255 := app_bd (be4_bd _) (be4_bd _)
theorem bodyZ_bd (l : LsaZ) : ∀ z ∈ bodyZ l, 0 ≤ z ∧ z ≤ 255 := by
  unfold bodyZ
  split
  · exact app_bd (app_bd (two_bd (by omega) (by omega)) (be2_bd _)) (flat_bd _ linkZ_bd _)
  · split
    · exact app_bd (be4_bd _) (flat_bd _ be4_bd _)
    · split
      · exact flat_bd _ vertZ_bd _
      · intro z hz; cases hz
theorem layZ_bd (l : LsaZ) : ∀ z ∈ layZ l, 0 ≤ z ∧ z ≤ 255 := app_bd (headZ_bd _) (bodyZ_bd _)
theorem bodyZ_length (l : LsaZ) : (bodyZ l).length = if l.head.kind = 1 then 4 + l.links.length * 12 else if l.head.kind = 2 then 4 + l.routers.length * 4 else if l.head.kind = 6 then l.verts.length * 8 else 0 := by
  unfold bodyZ
  split
  · rw [List.length_append, flat_length linkZ 12 (fun _ => rfl)]; rfl
  · split
    · rw [List.length_append, flat_length be4 4 (fun _ => rfl)]; rfl
    · split
      · rw [flat_length vertZ 8 (fun _ => rfl)]
      · rfl
end Go.Proofs.Ytibbhfmpgpkdaaa
