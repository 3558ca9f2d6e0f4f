/- The document's database grows old: Tick. -/
import Derived.Test.YtbogphhbjmapgaaD8A
import Derived.Test.YtbogphhbjmapgaaS9W4
namespace Go.Proofs.Ytbogphhbjmapgaa
open Go.RowKit
set_option linter.unusedVariables false

/-- How the document's Tick ends. -/
def DTickEnd (w : World) (N b : Nat) (most : Int) (lv : Value) (L : List Row) (e : Ending) (w' : World) : Prop :=
  ∃ v M, e = .returned v ∧ OwnK w' w.heap.size v (tickK L) ∧ Keeps w' N b most lv M ∧ M.map (·.2) = L.map (fun r => upL r.2) ∧ Turned b lv.ownBlock w w' ∧ Still w lv lv L M
theorem age_off {k : Nat} {s : Seats} {l : LsaZ} {a : Int} (h : Off k (s, l)) : Off k (s, ageL l a) := h
/-- One cell of a row is written over: its Age. -/
theorem own_age {w : World} {N g c p : Nat} {L : List Row} {n : Nat} (hn : n = L.length) (h : w.ownsRow N 42 12 (.slice (some ⟨g, 0, none⟩) n c) n (cellsOf rowC L)) (hp : p < L.length) (a : Int) :
    (w.setCell ⟨g, p * 12, none⟩ (.int .i64 a)).ownsRow N 42 12 (.slice (some ⟨g, 0, none⟩) n c) n (cellsOf rowC (L.set p (L[p].1, ageL L[p].2 a))) ∧ w.grownBy (w.setCell ⟨g, p * 12, none⟩ (.int .i64 a)) (some g) := by
  subst hn
  have h0 := World.ownsRow.stored h (p * 12) (.int .i64 a)
  refine ⟨?_, h0.2⟩
  have e : (cellsOf rowC L).set (p * 12) (.int .i64 a) = cellsOf rowC (L.set p (L[p].1, ageL L[p].2 a)) := by
    refine List.ext_getElem (by rw [List.length_set, rows_len, rows_len, List.length_set]) fun i h1 h2 => ?_
    have hi : i < L.length * 12 := by rw [List.length_set, rows_len] at h1; exact h1
    have hq : i / 12 < L.length := by omega
    have hr : i % 12 < 12 := Nat.mod_lt _ (by omega)
    have ei : i = i / 12 * 12 + i % 12 := by omega
    have a1 := cellsOf_at rowC 12 rowC_length L (i / 12) (i % 12) hq hr
    have a2 := cellsOf_at rowC 12 rowC_length (L.set p (L[p].1, ageL L[p].2 a)) (i / 12) (i % 12) (by rw [List.length_set]; exact hq) hr
    rw [← ei] at a1 a2
    rw [← Option.some.injEq, ← List.getElem?_eq_getElem h2, a2]
    by_cases e : i = p * 12
    · subst e
      rw [List.getElem_set_self]
      have e1 : p * 12 / 12 = p := by omega
      have e2 : p * 12 % 12 = 0 := by omega
      simp only [e1, e2, List.getElem_set_self]; rfl
    · rw [List.getElem_set_ne (by omega)]
      rw [List.getElem?_eq_getElem (by rw [rows_len]; exact hi)] at a1
      rw [a1]
      by_cases ep : i / 12 = p
      · have hm : i % 12 ≠ 0 := by omega
        simp only [ep, List.getElem_set_self]
        obtain ⟨m, hm'⟩ : ∃ m, i % 12 = m + 1 := ⟨i % 12 - 1, by omega⟩
        rw [hm']; rfl
      · rw [List.getElem_set_ne (by omega)]
  rw [e] at h0
  exact h0.1
/-- In its place, with another Age. -/
theorem Keeps.age {w : World} {N b g c p : Nat} {most : Int} {L : List Row} {n : Nat} (hn : n = L.length) (h : Keeps w N b most (.slice (some ⟨g, 0, none⟩) n c) L) (hp : p < L.length) (a : Int) (h0 : 0 ≤ a) (h1 : a ≤ 3600) :
    Keeps (w.setCell ⟨g, p * 12, none⟩ (.int .i64 a)) N b most (.slice (some ⟨g, 0, none⟩) n c) (L.set p (L[p].1, ageL L[p].2 a)) ∧ w.grownBy (w.setCell ⟨g, p * 12, none⟩ (.int .i64 a)) (some g) := by
  subst hn
  obtain ⟨o1, o2⟩ := own_age rfl h.own hp a
  refine ⟨h.turn (M := L.set p (L[p].1, ageL L[p].2 a)) (by rw [List.length_set]; exact o1) o2 ?_ (rising_set h.rising p _ hp (by show keyZ _ = _; rw [ageL_key]; rfl)) (by rw [List.length_set]; exact h.len), o2⟩
  intro x hx
  rcases List.mem_or_eq_of_mem_set hx with hx | rfl
  · exact h.row hx
  · obtain ⟨q1, q2, q3, q4, q5, q6⟩ := h.row (List.getElem_mem hp)
    exact ⟨ageL_held q1, q2, ageL_mid q3, ageL_sealed q4 h0 h1, q5, q6⟩
/-- One ticked more. -/
theorem Ticked.age {w0 w : World} {N b g c i n : Nat} {most : Int} {v : Value} {L : List Row} (hn : n = L.length) (h : Ticked w0 w N b most (.slice (some ⟨g, 0, none⟩) n c) L v i) (hi : i < L.length) (ha : L[i].2.head.age < 3600) :
    Ticked w0 (w.setCell ⟨g, i * 12, none⟩ (.int .i64 (L[i].2.head.age + 1))) N b most (.slice (some ⟨g, 0, none⟩) n c) L v (i + 1) ∧ w.grownBy (w.setCell ⟨g, i * 12, none⟩ (.int .i64 (L[i].2.head.age + 1))) (some g) := by
  obtain ⟨M, h1, h2, h3, hst, hcl⟩ := h
  have hiM : i < M.length := by rw [h2]; exact hi
  have hMi : M[i].2 = L[i].2 := by rw [h3 i hi hiM, if_neg (by omega)]
  have hsh := sealed_age (h1.shut _ (List.getElem_mem hiM))
  rw [hMi] at hsh
  obtain ⟨k1, k2⟩ := h1.age (hn.trans h2.symm) hiM (L[i].2.head.age + 1) (by omega) (by omega)
  have hof : ∀ k, Off k M[i] → Off k (M[i].1, ageL M[i].2 (L[i].2.head.age + 1)) := fun k h => h
  have hall : ∀ k, (∀ r ∈ M, Off k r) → ∀ r ∈ M.set i (M[i].1, ageL M[i].2 (L[i].2.head.age + 1)), Off k r := fun k h r hr => by
    rcases List.mem_or_eq_of_mem_set hr with hr | rfl
    · exact h r hr
    · exact hof k (h _ (List.getElem_mem hiM))
  refine ⟨⟨_, k1, by rw [List.length_set]; exact h2, fun j hj hj' => ?_, ⟨.inl rfl, fun k hk hr => hall k (hst.2 k hk hr)⟩, fun k hk => ⟨(hcl k hk).1, (hcl k hk).2.1, hall k (hcl k hk).2.2⟩⟩, k2⟩
  by_cases hji : j = i
  · subst hji
    rw [List.getElem_set_self, if_pos (by omega)]
    show ageL _ _ = upL _
    rw [hMi]
    unfold upL; rw [if_pos ha]
  · have hj2 : j < M.length := by rw [h2]; exact hj
    rw [List.getElem_set_ne (by omega), h3 j hj hj2]
    by_cases hlt : j < i
    · rw [if_pos hlt, if_pos (by omega)]
    · rw [if_neg hlt, if_neg (by omega)]
/-- What stands there. -/
theorem Ticked.at {w0 w : World} {N b i : Nat} {most : Int} {lv v : Value} {L : List Row} (h : Ticked w0 w N b most lv L v i) (j : Nat) (hj : j < L.length) : ∃ g c s, lv = .slice (some ⟨g, 0, none⟩) L.length c ∧ L.length ≤ c ∧ RowAt w g (j * 12) (s, if j < i then upL L[j].2 else L[j].2) ∧ w.cell? ⟨b, 1, none⟩ = some lv ∧ ∀ x, w.frozen? ⟨g, x, none⟩ = false := by
  obtain ⟨M, h1, h2, h3, -, -⟩ := h
  obtain ⟨g, c, e, hc, -, -, hr, hf⟩ := h1.at j (by rw [h2]; exact hj)
  rw [h2] at e hc
  refine ⟨g, c, M[j].1, e, hc, ?_, h1.obj.cell 1 rfl, hf⟩
  rw [← h3 j hj (by rw [h2]; exact hj)]; exact hr
end Go.Proofs.Ytbogphhbjmapgaa
