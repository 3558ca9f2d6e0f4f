/- Copy: another database that is the same. -/
import Derived.Test.YtmcemhkhgccojaaS8W13
namespace Go.Proofs.Ytmcemhkhgccojaa
open Go.RowKit
set_option linter.unusedVariables false

/-- How Copy ends. -/
def DupEnd (w : World) (most : Int) (L : List Row) (e : Ending) (w' : World) : Prop := ∃ b lv R, e = .returned (.pointer (some ⟨b, 0, none⟩)) ∧ Keeps w' w.heap.size b most lv R ∧ R.map Prod.snd = L.map Prod.snd ∧ (∀ k, lv.ownBlock = some k → w.heap.size ≤ k) ∧ Below w.heap.size w w' ∧ ∀ r ∈ R, FarR w.heap.size r.1
theorem dup_keeps {w w2 : World} {most : Int} {L R : List Row} {g c b N : Nat} {lv : Value} (hK : Keeps w N b most lv L) (hRl : R.length = L.length) (hg : w.heap.size ≤ g) (ho : w2.ownsRow w.heap.size 39 12 (.slice (some ⟨g, 0, none⟩) L.length c) L.length (cellsOf rowC R)) (hf : ∀ j (h : j < L.length) (h' : j < R.length), R[j].2 = L[j].2 ∧ Free w w2 g R[j]) (hb : Below w.heap.size w w2) (t : TypeId) :
    Keeps (w2.alloc (.cells #[.int .i64 most, .slice (some ⟨g, 0, none⟩) L.length c] t)) w.heap.size w2.heap.size most (.slice (some ⟨g, 0, none⟩) L.length c) R := by
  have hr : ∀ r ∈ R, ∃ j, ∃ (h : j < L.length) (h' : j < R.length), R[j] = r := fun r hr => by
    obtain ⟨j, hj, e⟩ := List.mem_iff_getElem.1 hr
    exact ⟨j, by omega, hj, e⟩
  have hlt := (World.ownsRow.lt ho g rfl).2
  have hn := below_new' w2 (.cells #[.int .i64 most, .slice (some ⟨g, 0, none⟩) L.length c] t)
  constructor
  · exact var_new w2 [.int .i64 most, .slice (some ⟨g, 0, none⟩) L.length c] t
  · exact hb.size
  · rw [hRl]; exact own_below ho hn
  · simp [Value.ownBlock]; omega
  · intro r h; obtain ⟨j, h1, h2, rfl⟩ := hr r h; exact (hf j h1 h2).2.1.below hn
  · intro r h; obtain ⟨j, h1, h2, rfl⟩ := hr r h; exact (hf j h1 h2).2.2.1
  · intro r h; obtain ⟨j, h1, h2, rfl⟩ := hr r h; rw [(hf j h1 h2).1]; exact hK.mid _ (List.getElem_mem h1)
  · intro r h; obtain ⟨j, h1, h2, rfl⟩ := hr r h; rw [(hf j h1 h2).1]; exact hK.shut _ (List.getElem_mem h1)
  · intro r h; obtain ⟨j, h1, h2, rfl⟩ := hr r h; exact off_old (hf j h1 h2).2.1 (Nat.le_refl _)
  · intro r h k hk; obtain ⟨j, h1, h2, rfl⟩ := hr r h; simp [Value.ownBlock] at hk; subst hk; exact (hf j h1 h2).2.2.2.2.2.2
  · unfold Rising
    rw [List.pairwise_iff_getElem]
    intro i j hi hj hij
    have e1 : rk R[i] = rk L[i] := by unfold rk; rw [(hf i (by omega) hi).1]
    have e2 : rk R[j] = rk L[j] := by unfold rk; rw [(hf j (by omega) hj).1]
    rw [e1, e2]
    exact rising_lt hK.rising i j hij (by omega)
  · rw [hRl]; exact hK.len
set_option maxHeartbeats 1600000 in
theorem copy_any (N b : Nat) (most : Int) (lv : Value) (L : List Row) (w : World) (h : Keeps w N b most lv L) : Calls Try.prog 18 #[.pointer (some ⟨b, 0, none⟩)] w (DupEnd w most L) := by
  have HK : Hid (Keeps w N b most lv L) := h
  have hS0 : w.drew.cell? ⟨b, 0, none⟩ = some (.int .i64 most) := h.obj.cell 0 rfl
  have CA : Calls _ _ _ _ _ := (all_any N b most lv L w.drew (h.below (Below.refl _ _).drew)).mono (R' := fun e w' => ∃ g c R, e = .returned (.slice (some ⟨g, 0, none⟩) L.length c) ∧ w'.cell? ⟨b, 0, none⟩ = some (.int .i64 most) ∧ Hid (w.heap.size ≤ g ∧ R.length = L.length ∧ w'.ownsRow w.heap.size 39 12 (.slice (some ⟨g, 0, none⟩) L.length c) L.length (cellsOf rowC R) ∧ (∀ j (h : j < L.length) (h' : j < R.length), R[j].2 = L[j].2 ∧ Free w w' g R[j]) ∧ Below w.heap.size w w')) fun e w' ⟨g, c, R, h1, h2, h3, h4, h5, h6⟩ => by
    have hX : Below w.heap.size w w' := ((Below.refl _ _).drew).trans h6
    exact ⟨g, c, R, h1, (h.below hX).obj.cell 0 rfl, h2, h3, h4, h5, hX⟩
  clear h
  go_enter Try.func18, Try.ntmps18
  go_upto_region 3 with fail
  go_region_with (go_at_call 21; refine CA.mono ?_; rintro e w2 ⟨g, c, R, rfl, hS1, hq⟩)
  all_goals
    clear CA hS0 hS1
    go_wp2
    go_ret
    obtain ⟨q1, q2, q3, q4, q5⟩ := hq.out
    refine ⟨w2.heap.size, _, R, rfl, dup_keeps HK.out q2 q1 q3 q4 q5 _, ?_, fun k hk => ?_, q5.alloc q5.size _, fun r hr => ?_⟩
    · refine List.ext_getElem (by simp [q2]) fun j h1 h2 => ?_
      simp only [List.getElem_map]
      exact (q4 j (by simpa using h2) (by simpa using h1)).1
    · simp [Value.ownBlock] at hk; omega
    · obtain ⟨j, hj, rfl⟩ := List.getElem_of_mem hr
      have := (q4 j (by rw [← q2]; exact hj) hj).2
      exact ⟨this.2.2.1, this.2.2.2.1, this.2.2.2.2.1⟩
end Go.Proofs.Ytmcemhkhgccojaa
