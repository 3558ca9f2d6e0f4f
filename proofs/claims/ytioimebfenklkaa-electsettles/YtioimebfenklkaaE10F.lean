/- The document's election: the best of some. -/
import Derived.Test.YtioimebfenklkaaE10E
namespace Go.Proofs.Ytioimebfenklkaa
open Go.RowKit
set_option linter.unusedVariables false

def BestEnd (w : World) (p : CandZ → Bool) (L : List CandZ) (e : Ending) (w' : World) : Prop := ∃ a, e = .returned (.int .i64 a) ∧ AddrIs p L a ∧ Below w.heap.size w w'
set_option maxHeartbeats 6400000 in
theorem rbest_2false (a : Option Addr) (n cap : Nat) (l : List CandZ) (w : World) (hn : n = l.length) (hL : Lies w a (cellsOf candC l)) (hl : l.length ≤ 1000000) :
    Calls Try.prog 20 #[.slice a n cap, .int .i64 2, .bool false] w (BestEnd w (qB 2 false) l) := by
  subst hn
  have HL : Hid (Lies w a (cellsOf candC l)) := hL
  have HN : Hid (l.length ≤ 1000000) := hl
  clear hL hl
  go_enter Try.func20, Try.ntmps20
  go_wp2_with fail
  go_loopw [7, 8] (fun u t wr => ∃ k i : Nat, i ≤ l.length ∧ k ≤ l.length ∧ u = .int .i64 ((k : Int) - 1) ∧ t = .int .i64 i ∧ Hid (BestAt (qB 2 false) l i k) ∧ Hid (Below w.heap.size w wr)) (fun _ t _ => l.length - (intOf t).toNat)
  case atStart => exact ⟨0, 0, by omega, by omega, rfl, rfl, .inl ⟨rfl, fun j _ h => absurd h (by omega)⟩, Below.refl _ _⟩
  case round =>
    obtain ⟨k, i, hi, hkl, rfl, rfl, H, HB⟩ := hrel
    have hln := HN.out
    by_cases hlt : i < l.length
    · have hki : (i : Int) < (l.length : Int) := by omega
      have hcs : ∀ X, Below wr.heap.size wr X → ∃ b off, a = some ⟨b, off, none⟩ ∧ Hid (∀ j (hj : j < l.length), X.cell? ⟨b, off + j * 5, none⟩ = some (.int .i64 l[j].id) ∧ X.cell? ⟨b, off + j * 5 + 1, none⟩ = some (.int .i64 l[j].addr) ∧ X.cell? ⟨b, off + j * 5 + 2, none⟩ = some (.int .i64 l[j].prio) ∧ X.cell? ⟨b, off + j * 5 + 3, none⟩ = some (.int .i64 l[j].dr) ∧ X.cell? ⟨b, off + j * 5 + 4, none⟩ = some (.int .i64 l[j].bdr)) := by
        intro X hX
        have hlies := (HL.out.below HB.out).below hX
        obtain ⟨b, off, e, -⟩ := Cands.cells hlies i hlt
        refine ⟨b, off, e, fun j hj => ?_⟩
        obtain ⟨b', off', e', h⟩ := Cands.cells hlies j hj
        rw [e] at e'
        cases e'
        exact h
      obtain ⟨b, off, rfl, hc0⟩ := hcs wr (Below.refl _ _)
      have HC : Hid (∀ X, Below wr.heap.size wr X → ∀ j (hj : j < l.length), X.cell? ⟨b, off + j * 5, none⟩ = some (.int .i64 l[j].id) ∧ X.cell? ⟨b, off + j * 5 + 1, none⟩ = some (.int .i64 l[j].addr) ∧ X.cell? ⟨b, off + j * 5 + 2, none⟩ = some (.int .i64 l[j].prio) ∧ X.cell? ⟨b, off + j * 5 + 3, none⟩ = some (.int .i64 l[j].dr) ∧ X.cell? ⟨b, off + j * 5 + 4, none⟩ = some (.int .i64 l[j].bdr)) := by
        intro X hX
        obtain ⟨b', off', e, h⟩ := hcs X hX
        cases e
        exact h.out
      clear hcs hc0
      obtain ⟨c0, c1, c2, c3, c4⟩ := HC.out wr (Below.refl _ _) i hlt
      have HSK : Hid (¬ qB 2 false l[i] = true → BestAt (qB 2 false) l (i + 1) k) := fun h => H.out.skip hlt h
      obtain ⟨x, hx⟩ : ∃ x, l[i] = x := ⟨_, rfl⟩
      by_cases hp : 0 < x.prio
      · obtain ⟨v, hv⟩ : ∃ v, claimZ x = v := ⟨_, rfl⟩
        have CC := rclaims_any x v hv
        have hv3 : v = 0 ∨ v = 1 ∨ v = 2 := by rw [← hv]; unfold claimZ; (repeat' split) <;> simp
        rcases hv3 with rfl | rfl | rfl
        · have HS : Hid (BestAt (qB 2 false) l (i + 1) k) := HSK.out (by rw [hx]; unfold qB; rw [hv]; simp)
          rw [hx] at c0 c1 c2 c3 c4
          clear hv HSK
          go_upto_region 5 with fail
          have HXX : Hid (l[i] = x) := hx
          have keepS : Hid (∀ X, Below wr.heap.size wr X → X.cell? ⟨b, off + i * 5, none⟩ = some (.int .i64 x.id) ∧ X.cell? ⟨b, off + i * 5 + 1, none⟩ = some (.int .i64 x.addr) ∧ X.cell? ⟨b, off + i * 5 + 2, none⟩ = some (.int .i64 x.prio) ∧ X.cell? ⟨b, off + i * 5 + 3, none⟩ = some (.int .i64 x.dr) ∧ X.cell? ⟨b, off + i * 5 + 4, none⟩ = some (.int .i64 x.bdr) ∧ Hid (Below wr.heap.size wr X)) := fun X hX => by
            obtain ⟨e0, e1, e2, e3, e4⟩ := HC.out X hX i hlt
            rw [HXX.out] at e0 e1 e2 e3 e4
            exact ⟨e0, e1, e2, e3, e4, hX⟩
          have hVd : Hid (Below wr.heap.size wr wr.drew) := (Below.refl _ _).drew
          have CCd : ∀ W (h : Below wr.heap.size wr W), Calls Try.prog 23 #[.agg (candA x)] W fun e w' => e = .returned (.int .i64 0) ∧ Hid (Below wr.heap.size wr w') := fun W h => (CC W).mono fun e w' ⟨h1, h2⟩ => ⟨h1, below_more h h2 h.size⟩
          clear CC hx c0 c1 c2 c3 c4
          refine wp_region_held_drew (S := (fun X => X.cell? ⟨b, off + i * 5, none⟩ = some (.int .i64 x.id) ∧ X.cell? ⟨b, off + i * 5 + 1, none⟩ = some (.int .i64 x.addr) ∧ X.cell? ⟨b, off + i * 5 + 2, none⟩ = some (.int .i64 x.prio) ∧ X.cell? ⟨b, off + i * 5 + 3, none⟩ = some (.int .i64 x.dr) ∧ X.cell? ⟨b, off + i * 5 + 4, none⟩ = some (.int .i64 x.bdr) ∧ Hid (Below wr.heap.size wr X))) (by kernel_rfl) ?_ (fun hHeld => ?_)
          · exact keepS.out _ hVd.out
          refine wpAnyH_take (i := 0) (oi := ?_) (v := ?_) ?_ (by kernel_rfl) (by kernel_rfl) (by kernel_rfl) ?_ (Or.inl ⟨?_, ?_⟩) hHeld ?_
          rotate_left 2
          · simp only [List.getElem?_toArray, List.getElem?_cons_zero]; with_reducible rfl
          · exact fun _ _ _ h => h
          · rfl
          · intro wS hSw; (try dsimp only at hSw); go_simp <;> with_reducible rfl
          simp only [put_lit, List.set]
          refine wpAnyH_take (i := 1) (oi := ?_) (v := ?_) ?_ (by kernel_rfl) (by kernel_rfl) (by kernel_rfl) ?_ (Or.inl ⟨?_, ?_⟩) hHeld ?_
          rotate_left 2
          · simp only [List.getElem?_toArray, List.getElem?_cons_zero, List.getElem?_cons_succ]; with_reducible rfl
          · exact fun _ _ _ h => h
          · rfl
          · intro wS hSw; (try dsimp only at hSw); go_simp <;> with_reducible rfl
          simp only [put_lit, List.set]
          refine wpAnyH_take (i := 2) (oi := ?_) (v := ?_) ?_ (by kernel_rfl) (by kernel_rfl) (by kernel_rfl) ?_ (Or.inl ⟨?_, ?_⟩) hHeld ?_
          rotate_left 2
          · simp only [List.getElem?_toArray, List.getElem?_cons_zero, List.getElem?_cons_succ]; with_reducible rfl
          · exact fun _ _ _ h => h
          · rfl
          · intro wS hSw; (try dsimp only at hSw); go_simp <;> with_reducible rfl
          simp only [put_lit, List.set]
          refine wpAnyH_take (i := 3) (oi := ?_) (v := ?_) ?_ (by kernel_rfl) (by kernel_rfl) (by kernel_rfl) ?_ (Or.inl ⟨?_, ?_⟩) hHeld ?_
          rotate_left 2
          · simp only [List.getElem?_toArray, List.getElem?_cons_zero, List.getElem?_cons_succ]; with_reducible rfl
          · exact fun _ _ _ h => h
          · rfl
          · intro wS hSw; (try dsimp only at hSw); go_simp <;> with_reducible rfl
          simp only [put_lit, List.set]
          refine wpAnyH_take (i := 4) (oi := ?_) (v := ?_) ?_ (by kernel_rfl) (by kernel_rfl) (by kernel_rfl) ?_ (Or.inl ⟨?_, ?_⟩) hHeld ?_
          rotate_left 2
          · simp only [List.getElem?_toArray, List.getElem?_cons_zero, List.getElem?_cons_succ]; with_reducible rfl
          · exact fun _ _ _ h => h
          · rfl
          · intro wS hSw; (try dsimp only at hSw); go_simp <;> with_reducible rfl
          simp only [put_lit, List.set]
          refine wpAnyH_take (i := 5) (oi := ?_) (v := ?_) ?_ (by kernel_rfl) (by kernel_rfl) (by kernel_rfl) ?_ (Or.inl ⟨?_, ?_⟩) hHeld ?_
          rotate_left 2
          · simp only [List.getElem?_toArray, List.getElem?_cons_zero, List.getElem?_cons_succ]; with_reducible rfl
          · exact fun _ _ _ h => h
          · rfl
          · intro wS hSw; (try dsimp only at hSw); go_simp <;> with_reducible rfl
          simp only [put_lit, List.set]
          refine wpAnyH_take (i := 6) (oi := ?_) (v := ?_) ?_ (by kernel_rfl) (by kernel_rfl) (by kernel_rfl) ?_ (Or.inl ⟨?_, ?_⟩) hHeld ?_
          rotate_left 2
          · simp only [List.getElem?_toArray, List.getElem?_cons_zero, List.getElem?_cons_succ]; with_reducible rfl
          · exact fun _ _ _ h => h
          · rfl
          · intro wS hSw; (try dsimp only at hSw); go_simp <;> with_reducible rfl
          simp only [put_lit, List.set]
          refine wpAnyH_take (i := 7) (oi := ?_) (v := ?_) ?_ (by kernel_rfl) (by kernel_rfl) (by kernel_rfl) ?_ (Or.inl ⟨?_, ?_⟩) hHeld ?_
          rotate_left 2
          · simp only [List.getElem?_toArray, List.getElem?_cons_zero, List.getElem?_cons_succ]; with_reducible rfl
          · exact fun _ _ _ h => h
          · rfl
          · intro wS hSw; (try dsimp only at hSw); go_simp <;> with_reducible rfl
          simp only [put_lit, List.set]
          refine wpAnyH_take (i := 8) (oi := ?_) (v := ?_) ?_ (by kernel_rfl) (by kernel_rfl) (by kernel_rfl) ?_ (Or.inl ⟨?_, ?_⟩) hHeld ?_
          rotate_left 2
          · simp only [List.getElem?_toArray, List.getElem?_cons_zero, List.getElem?_cons_succ]; with_reducible rfl
          · exact fun _ _ _ h => h
          · rfl
          · intro wS hSw; (try dsimp only at hSw); go_simp <;> with_reducible rfl
          simp only [put_lit, List.set]
          refine wpAnyH_take (i := 9) (oi := ?_) (v := ?_) ?_ (by kernel_rfl) (by kernel_rfl) (by kernel_rfl) ?_ (Or.inl ⟨?_, ?_⟩) hHeld ?_
          rotate_left 2
          · simp only [List.getElem?_toArray, List.getElem?_cons_zero, List.getElem?_cons_succ]; with_reducible rfl
          · exact fun _ _ _ h => h
          · rfl
          · intro wS hSw; (try dsimp only at hSw); go_simp <;> with_reducible rfl
          simp only [put_lit, List.set]
          refine wpAnyH_take (i := 10) (oi := ?_) (v := ?_) ?_ (by kernel_rfl) (by kernel_rfl) (by kernel_rfl) ?_ (Or.inl ⟨?_, ?_⟩) hHeld ?_
          rotate_left 2
          · simp only [List.getElem?_toArray, List.getElem?_cons_zero, List.getElem?_cons_succ]; with_reducible rfl
          · exact fun _ _ _ h => h
          · rfl
          · intro wS hSw; (try dsimp only at hSw); go_simp <;> with_reducible rfl
          simp only [put_lit, List.set]
          refine wpAnyH_take (i := 12) (oi := ?_) (v := ?_) ?_ (by kernel_rfl) (by kernel_rfl) (by kernel_rfl) ?_ (Or.inl ⟨?_, ?_⟩) hHeld ?_
          rotate_left 2
          · simp only [List.getElem?_toArray, List.getElem?_cons_zero, List.getElem?_cons_succ]; with_reducible rfl
          · exact fun _ _ _ h => h
          · rfl
          · intro wS hSw; (try dsimp only at hSw); go_simp <;> with_reducible rfl
          simp only [put_lit, List.set]
          refine wpAnyH_take (i := 14) (oi := ?_) (v := ?_) ?_ (by kernel_rfl) (by kernel_rfl) (by kernel_rfl) ?_ (Or.inl ⟨?_, ?_⟩) hHeld ?_
          rotate_left 2
          · simp only [List.getElem?_toArray, List.getElem?_cons_zero, List.getElem?_cons_succ]; with_reducible rfl
          · exact fun _ _ _ h => h
          · rfl
          · intro wS hSw; (try dsimp only at hSw); go_simp <;> with_reducible rfl
          simp only [put_lit, List.set]
          refine wpAnyH_ready (rs := [11]) (by kernel_rfl) (by simp) ?_
          refine AllReadyH.cons rfl (fun K hK => ?_) AllReadyH.nil
          go_simp
          go_at_call 23
          refine (CCd _ hVd.out).mono ?_
          rintro e w2 ⟨rfl, hb2⟩
          go_wp2_with fail
          refine hK.out _ _ ?_ (fun hHeld2 => ?_)
          · exact keepS.out _ hb2.out
          clear hK K hHeld
          have hHeld := hHeld2
          clear hHeld2
          (try simp only [put_lit, List.set])
          refine wpAnyH_take (i := 13) (oi := ?_) (v := ?_) ?_ (by kernel_rfl) (by kernel_rfl) (by kernel_rfl) ?_ (Or.inl ⟨?_, ?_⟩) hHeld ?_
          rotate_left 2
          · simp only [List.getElem?_toArray, List.getElem?_cons_zero, List.getElem?_cons_succ]; with_reducible rfl
          · exact fun _ _ _ h => h
          · rfl
          · intro wS hSw; (try dsimp only at hSw); go_simp <;> with_reducible rfl
          simp only [put_lit, List.set]
          refine wpAnyH_take (i := 15) (oi := ?_) (v := ?_) ?_ (by kernel_rfl) (by kernel_rfl) (by kernel_rfl) ?_ (Or.inl ⟨?_, ?_⟩) hHeld ?_
          rotate_left 2
          · simp only [List.getElem?_toArray, List.getElem?_cons_zero, List.getElem?_cons_succ]; with_reducible rfl
          · exact fun _ _ _ h => h
          · rfl
          · intro wS hSw; (try dsimp only at hSw); go_simp <;> with_reducible rfl
          simp only [put_lit, List.set]
          refine wpAnyH_take (i := 16) (oi := ?_) (v := ?_) ?_ (by kernel_rfl) (by kernel_rfl) (by kernel_rfl) ?_ (Or.inl ⟨?_, ?_⟩) hHeld ?_
          rotate_left 2
          · simp only [List.getElem?_toArray, List.getElem?_cons_zero, List.getElem?_cons_succ]; with_reducible rfl
          · exact fun _ _ _ h => h
          · rfl
          · intro wS hSw; (try dsimp only at hSw); go_simp <;> with_reducible rfl
          simp only [put_lit, List.set]
          refine wpAnyH_take (i := 17) (oi := ?_) (v := ?_) ?_ (by kernel_rfl) (by kernel_rfl) (by kernel_rfl) ?_ (Or.inl ⟨?_, ?_⟩) hHeld ?_
          rotate_left 2
          · simp only [List.getElem?_toArray, List.getElem?_cons_zero, List.getElem?_cons_succ]; with_reducible rfl
          · exact fun _ _ _ h => h
          · rfl
          · intro wS hSw; (try dsimp only at hSw); go_simp <;> with_reducible rfl
          simp only [put_lit, List.set]
          refine wpAnyH_take (i := 18) (oi := ?_) (v := undef) ?_ (by kernel_rfl) (by kernel_rfl) (by kernel_rfl) ?_ (Or.inr ⟨?_, rfl⟩) hHeld ?_
          rotate_left
          · simp only [List.getElem?_toArray, List.getElem?_cons_zero, List.getElem?_cons_succ]; with_reducible rfl
          · exact fun _ _ _ h => h
          · rfl
          simp only [put_lit, List.set]
          refine wpAnyH_take (i := 19) (oi := ?_) (v := undef) ?_ (by kernel_rfl) (by kernel_rfl) (by kernel_rfl) ?_ (Or.inr ⟨?_, rfl⟩) hHeld ?_
          rotate_left
          · simp only [List.getElem?_toArray, List.getElem?_cons_zero, List.getElem?_cons_succ]; with_reducible rfl
          · exact fun _ _ _ h => h
          · rfl
          simp only [put_lit, List.set]
          refine wpAnyH_take (i := 20) (oi := ?_) (v := undef) ?_ (by kernel_rfl) (by kernel_rfl) (by kernel_rfl) ?_ (Or.inr ⟨?_, rfl⟩) hHeld ?_
          rotate_left
          · simp only [List.getElem?_toArray, List.getElem?_cons_zero, List.getElem?_cons_succ]; with_reducible rfl
          · exact fun _ _ _ h => h
          · rfl
          simp only [put_lit, List.set]
          refine wpAnyH_take (i := 21) (oi := ?_) (v := undef) ?_ (by kernel_rfl) (by kernel_rfl) (by kernel_rfl) ?_ (Or.inr ⟨?_, rfl⟩) hHeld ?_
          rotate_left
          · simp only [List.getElem?_toArray, List.getElem?_cons_zero, List.getElem?_cons_succ]; with_reducible rfl
          · exact fun _ _ _ h => h
          · rfl
          simp only [put_lit, List.set]
          refine wpAnyH_take (i := 22) (oi := ?_) (v := undef) ?_ (by kernel_rfl) (by kernel_rfl) (by kernel_rfl) ?_ (Or.inr ⟨?_, rfl⟩) hHeld ?_
          rotate_left
          · simp only [List.getElem?_toArray, List.getElem?_cons_zero, List.getElem?_cons_succ]; with_reducible rfl
          · exact fun _ _ _ h => h
          · rfl
          simp only [put_lit, List.set]
          refine wpAnyH_take (i := 23) (oi := ?_) (v := undef) ?_ (by kernel_rfl) (by kernel_rfl) (by kernel_rfl) ?_ (Or.inr ⟨?_, rfl⟩) hHeld ?_
          rotate_left
          · simp only [List.getElem?_toArray, List.getElem?_cons_zero, List.getElem?_cons_succ]; with_reducible rfl
          · exact fun _ _ _ h => h
          · rfl
          simp only [put_lit, List.set]
          refine wpAnyH_take (i := 24) (oi := ?_) (v := undef) ?_ (by kernel_rfl) (by kernel_rfl) (by kernel_rfl) ?_ (Or.inr ⟨?_, rfl⟩) hHeld ?_
          rotate_left
          · simp only [List.getElem?_toArray, List.getElem?_cons_zero, List.getElem?_cons_succ]; with_reducible rfl
          · exact fun _ _ _ h => h
          · rfl
          simp only [put_lit, List.set]
          refine wpAnyH_take (i := 25) (oi := ?_) (v := undef) ?_ (by kernel_rfl) (by kernel_rfl) (by kernel_rfl) ?_ (Or.inr ⟨?_, rfl⟩) hHeld ?_
          rotate_left
          · simp only [List.getElem?_toArray, List.getElem?_cons_zero, List.getElem?_cons_succ]; with_reducible rfl
          · exact fun _ _ _ h => h
          · rfl
          simp only [put_lit, List.set]
          refine wpAnyH_take (i := 26) (oi := ?_) (v := undef) ?_ (by kernel_rfl) (by kernel_rfl) (by kernel_rfl) ?_ (Or.inr ⟨?_, rfl⟩) hHeld ?_
          rotate_left
          · simp only [List.getElem?_toArray, List.getElem?_cons_zero, List.getElem?_cons_succ]; with_reducible rfl
          · exact fun _ _ _ h => h
          · rfl
          simp only [put_lit, List.set]
          refine wpAnyH_take (i := 27) (oi := ?_) (v := undef) ?_ (by kernel_rfl) (by kernel_rfl) (by kernel_rfl) ?_ (Or.inr ⟨?_, rfl⟩) hHeld ?_
          rotate_left
          · simp only [List.getElem?_toArray, List.getElem?_cons_zero, List.getElem?_cons_succ]; with_reducible rfl
          · exact fun _ _ _ h => h
          · rfl
          simp only [put_lit, List.set]
          refine wpAnyH_take (i := 28) (oi := ?_) (v := undef) ?_ (by kernel_rfl) (by kernel_rfl) (by kernel_rfl) ?_ (Or.inr ⟨?_, rfl⟩) hHeld ?_
          rotate_left
          · simp only [List.getElem?_toArray, List.getElem?_cons_zero, List.getElem?_cons_succ]; with_reducible rfl
          · exact fun _ _ _ h => h
          · rfl
          simp only [put_lit, List.set]
          refine wpAnyH_take (i := 29) (oi := ?_) (v := undef) ?_ (by kernel_rfl) (by kernel_rfl) (by kernel_rfl) ?_ (Or.inr ⟨?_, rfl⟩) hHeld ?_
          rotate_left
          · simp only [List.getElem?_toArray, List.getElem?_cons_zero, List.getElem?_cons_succ]; with_reducible rfl
          · exact fun _ _ _ h => h
          · rfl
          simp only [put_lit, List.set]
          refine wpAnyH_take (i := 30) (oi := ?_) (v := undef) ?_ (by kernel_rfl) (by kernel_rfl) (by kernel_rfl) ?_ (Or.inr ⟨?_, rfl⟩) hHeld ?_
          rotate_left
          · simp only [List.getElem?_toArray, List.getElem?_cons_zero, List.getElem?_cons_succ]; with_reducible rfl
          · exact fun _ _ _ h => h
          · rfl
          simp only [put_lit, List.set]
          refine wpAnyH_take (i := 31) (oi := ?_) (v := ?_) ?_ (by kernel_rfl) (by kernel_rfl) (by kernel_rfl) ?_ (Or.inl ⟨?_, ?_⟩) hHeld ?_
          rotate_left 2
          · simp only [List.getElem?_toArray, List.getElem?_cons_zero, List.getElem?_cons_succ]; with_reducible rfl
          · exact fun _ _ _ h => h
          · rfl
          · intro wS hSw; (try dsimp only at hSw); go_simp <;> with_reducible rfl
          simp only [put_lit, List.set]
          refine wpAnyH_done (by kernel_rfl) ?_ _
          have HBB : Hid (Below w.heap.size w w2) := below_more HB.out hb2.out HB.out.size
          clear hHeld hb2 HC HB
          clear keepS hVd CCd
          go_wp2
          go_roundw
          case rel => exact ⟨k, i + 1, by omega, by omega, by go_num, by go_num, HS.out, HBB.out⟩
          case measure => simp [intOf]; omega
        · have HS : Hid (BestAt (qB 2 false) l (i + 1) k) := HSK.out (by rw [hx]; unfold qB; rw [hv]; simp)
          rw [hx] at c0 c1 c2 c3 c4
          clear hv HSK
          go_upto_region 5 with fail
          have HXX : Hid (l[i] = x) := hx
          have keepS : Hid (∀ X, Below wr.heap.size wr X → X.cell? ⟨b, off + i * 5, none⟩ = some (.int .i64 x.id) ∧ X.cell? ⟨b, off + i * 5 + 1, none⟩ = some (.int .i64 x.addr) ∧ X.cell? ⟨b, off + i * 5 + 2, none⟩ = some (.int .i64 x.prio) ∧ X.cell? ⟨b, off + i * 5 + 3, none⟩ = some (.int .i64 x.dr) ∧ X.cell? ⟨b, off + i * 5 + 4, none⟩ = some (.int .i64 x.bdr) ∧ Hid (Below wr.heap.size wr X)) := fun X hX => by
            obtain ⟨e0, e1, e2, e3, e4⟩ := HC.out X hX i hlt
            rw [HXX.out] at e0 e1 e2 e3 e4
            exact ⟨e0, e1, e2, e3, e4, hX⟩
          have hVd : Hid (Below wr.heap.size wr wr.drew) := (Below.refl _ _).drew
          have CCd : ∀ W (h : Below wr.heap.size wr W), Calls Try.prog 23 #[.agg (candA x)] W fun e w' => e = .returned (.int .i64 1) ∧ Hid (Below wr.heap.size wr w') := fun W h => (CC W).mono fun e w' ⟨h1, h2⟩ => ⟨h1, below_more h h2 h.size⟩
          clear CC hx c0 c1 c2 c3 c4
          refine wp_region_held_drew (S := (fun X => X.cell? ⟨b, off + i * 5, none⟩ = some (.int .i64 x.id) ∧ X.cell? ⟨b, off + i * 5 + 1, none⟩ = some (.int .i64 x.addr) ∧ X.cell? ⟨b, off + i * 5 + 2, none⟩ = some (.int .i64 x.prio) ∧ X.cell? ⟨b, off + i * 5 + 3, none⟩ = some (.int .i64 x.dr) ∧ X.cell? ⟨b, off + i * 5 + 4, none⟩ = some (.int .i64 x.bdr) ∧ Hid (Below wr.heap.size wr X))) (by kernel_rfl) ?_ (fun hHeld => ?_)
          · exact keepS.out _ hVd.out
          refine wpAnyH_take (i := 0) (oi := ?_) (v := ?_) ?_ (by kernel_rfl) (by kernel_rfl) (by kernel_rfl) ?_ (Or.inl ⟨?_, ?_⟩) hHeld ?_
          rotate_left 2
          · simp only [List.getElem?_toArray, List.getElem?_cons_zero]; with_reducible rfl
          · exact fun _ _ _ h => h
          · rfl
          · intro wS hSw; (try dsimp only at hSw); go_simp <;> with_reducible rfl
          simp only [put_lit, List.set]
          refine wpAnyH_take (i := 1) (oi := ?_) (v := ?_) ?_ (by kernel_rfl) (by kernel_rfl) (by kernel_rfl) ?_ (Or.inl ⟨?_, ?_⟩) hHeld ?_
          rotate_left 2
          · simp only [List.getElem?_toArray, List.getElem?_cons_zero, List.getElem?_cons_succ]; with_reducible rfl
          · exact fun _ _ _ h => h
          · rfl
          · intro wS hSw; (try dsimp only at hSw); go_simp <;> with_reducible rfl
          simp only [put_lit, List.set]
          refine wpAnyH_take (i := 2) (oi := ?_) (v := ?_) ?_ (by kernel_rfl) (by kernel_rfl) (by kernel_rfl) ?_ (Or.inl ⟨?_, ?_⟩) hHeld ?_
          rotate_left 2
          · simp only [List.getElem?_toArray, List.getElem?_cons_zero, List.getElem?_cons_succ]; with_reducible rfl
          · exact fun _ _ _ h => h
          · rfl
          · intro wS hSw; (try dsimp only at hSw); go_simp <;> with_reducible rfl
          simp only [put_lit, List.set]
          refine wpAnyH_take (i := 3) (oi := ?_) (v := ?_) ?_ (by kernel_rfl) (by kernel_rfl) (by kernel_rfl) ?_ (Or.inl ⟨?_, ?_⟩) hHeld ?_
          rotate_left 2
          · simp only [List.getElem?_toArray, List.getElem?_cons_zero, List.getElem?_cons_succ]; with_reducible rfl
          · exact fun _ _ _ h => h
          · rfl
          · intro wS hSw; (try dsimp only at hSw); go_simp <;> with_reducible rfl
          simp only [put_lit, List.set]
          refine wpAnyH_take (i := 4) (oi := ?_) (v := ?_) ?_ (by kernel_rfl) (by kernel_rfl) (by kernel_rfl) ?_ (Or.inl ⟨?_, ?_⟩) hHeld ?_
          rotate_left 2
          · simp only [List.getElem?_toArray, List.getElem?_cons_zero, List.getElem?_cons_succ]; with_reducible rfl
          · exact fun _ _ _ h => h
          · rfl
          · intro wS hSw; (try dsimp only at hSw); go_simp <;> with_reducible rfl
          simp only [put_lit, List.set]
          refine wpAnyH_take (i := 5) (oi := ?_) (v := ?_) ?_ (by kernel_rfl) (by kernel_rfl) (by kernel_rfl) ?_ (Or.inl ⟨?_, ?_⟩) hHeld ?_
          rotate_left 2
          · simp only [List.getElem?_toArray, List.getElem?_cons_zero, List.getElem?_cons_succ]; with_reducible rfl
          · exact fun _ _ _ h => h
          · rfl
          · intro wS hSw; (try dsimp only at hSw); go_simp <;> with_reducible rfl
          simp only [put_lit, List.set]
          refine wpAnyH_take (i := 6) (oi := ?_) (v := ?_) ?_ (by kernel_rfl) (by kernel_rfl) (by kernel_rfl) ?_ (Or.inl ⟨?_, ?_⟩) hHeld ?_
          rotate_left 2
          · simp only [List.getElem?_toArray, List.getElem?_cons_zero, List.getElem?_cons_succ]; with_reducible rfl
          · exact fun _ _ _ h => h
          · rfl
          · intro wS hSw; (try dsimp only at hSw); go_simp <;> with_reducible rfl
          simp only [put_lit, List.set]
          refine wpAnyH_take (i := 7) (oi := ?_) (v := ?_) ?_ (by kernel_rfl) (by kernel_rfl) (by kernel_rfl) ?_ (Or.inl ⟨?_, ?_⟩) hHeld ?_
          rotate_left 2
          · simp only [List.getElem?_toArray, List.getElem?_cons_zero, List.getElem?_cons_succ]; with_reducible rfl
          · exact fun _ _ _ h => h
          · rfl
          · intro wS hSw; (try dsimp only at hSw); go_simp <;> with_reducible rfl
          simp only [put_lit, List.set]
          refine wpAnyH_take (i := 8) (oi := ?_) (v := ?_) ?_ (by kernel_rfl) (by kernel_rfl) (by kernel_rfl) ?_ (Or.inl ⟨?_, ?_⟩) hHeld ?_
          rotate_left 2
          · simp only [List.getElem?_toArray, List.getElem?_cons_zero, List.getElem?_cons_succ]; with_reducible rfl
          · exact fun _ _ _ h => h
          · rfl
          · intro wS hSw; (try dsimp only at hSw); go_simp <;> with_reducible rfl
          simp only [put_lit, List.set]
          refine wpAnyH_take (i := 9) (oi := ?_) (v := ?_) ?_ (by kernel_rfl) (by kernel_rfl) (by kernel_rfl) ?_ (Or.inl ⟨?_, ?_⟩) hHeld ?_
          rotate_left 2
          · simp only [List.getElem?_toArray, List.getElem?_cons_zero, List.getElem?_cons_succ]; with_reducible rfl
          · exact fun _ _ _ h => h
          · rfl
          · intro wS hSw; (try dsimp only at hSw); go_simp <;> with_reducible rfl
          simp only [put_lit, List.set]
          refine wpAnyH_take (i := 10) (oi := ?_) (v := ?_) ?_ (by kernel_rfl) (by kernel_rfl) (by kernel_rfl) ?_ (Or.inl ⟨?_, ?_⟩) hHeld ?_
          rotate_left 2
          · simp only [List.getElem?_toArray, List.getElem?_cons_zero, List.getElem?_cons_succ]; with_reducible rfl
          · exact fun _ _ _ h => h
          · rfl
          · intro wS hSw; (try dsimp only at hSw); go_simp <;> with_reducible rfl
          simp only [put_lit, List.set]
          refine wpAnyH_take (i := 12) (oi := ?_) (v := ?_) ?_ (by kernel_rfl) (by kernel_rfl) (by kernel_rfl) ?_ (Or.inl ⟨?_, ?_⟩) hHeld ?_
          rotate_left 2
          · simp only [List.getElem?_toArray, List.getElem?_cons_zero, List.getElem?_cons_succ]; with_reducible rfl
          · exact fun _ _ _ h => h
          · rfl
          · intro wS hSw; (try dsimp only at hSw); go_simp <;> with_reducible rfl
          simp only [put_lit, List.set]
          refine wpAnyH_take (i := 14) (oi := ?_) (v := ?_) ?_ (by kernel_rfl) (by kernel_rfl) (by kernel_rfl) ?_ (Or.inl ⟨?_, ?_⟩) hHeld ?_
          rotate_left 2
          · simp only [List.getElem?_toArray, List.getElem?_cons_zero, List.getElem?_cons_succ]; with_reducible rfl
          · exact fun _ _ _ h => h
          · rfl
          · intro wS hSw; (try dsimp only at hSw); go_simp <;> with_reducible rfl
          simp only [put_lit, List.set]
          refine wpAnyH_ready (rs := [11]) (by kernel_rfl) (by simp) ?_
          refine AllReadyH.cons rfl (fun K hK => ?_) AllReadyH.nil
          go_simp
          go_at_call 23
          refine (CCd _ hVd.out).mono ?_
          rintro e w2 ⟨rfl, hb2⟩
          go_wp2_with fail
          refine hK.out _ _ ?_ (fun hHeld2 => ?_)
          · exact keepS.out _ hb2.out
          clear hK K hHeld
          have hHeld := hHeld2
          clear hHeld2
          (try simp only [put_lit, List.set])
          refine wpAnyH_take (i := 13) (oi := ?_) (v := ?_) ?_ (by kernel_rfl) (by kernel_rfl) (by kernel_rfl) ?_ (Or.inl ⟨?_, ?_⟩) hHeld ?_
          rotate_left 2
          · simp only [List.getElem?_toArray, List.getElem?_cons_zero, List.getElem?_cons_succ]; with_reducible rfl
          · exact fun _ _ _ h => h
          · rfl
          · intro wS hSw; (try dsimp only at hSw); go_simp <;> with_reducible rfl
          simp only [put_lit, List.set]
          refine wpAnyH_take (i := 15) (oi := ?_) (v := ?_) ?_ (by kernel_rfl) (by kernel_rfl) (by kernel_rfl) ?_ (Or.inl ⟨?_, ?_⟩) hHeld ?_
          rotate_left 2
          · simp only [List.getElem?_toArray, List.getElem?_cons_zero, List.getElem?_cons_succ]; with_reducible rfl
          · exact fun _ _ _ h => h
          · rfl
          · intro wS hSw; (try dsimp only at hSw); go_simp <;> with_reducible rfl
          simp only [put_lit, List.set]
          refine wpAnyH_take (i := 16) (oi := ?_) (v := ?_) ?_ (by kernel_rfl) (by kernel_rfl) (by kernel_rfl) ?_ (Or.inl ⟨?_, ?_⟩) hHeld ?_
          rotate_left 2
          · simp only [List.getElem?_toArray, List.getElem?_cons_zero, List.getElem?_cons_succ]; with_reducible rfl
          · exact fun _ _ _ h => h
          · rfl
          · intro wS hSw; (try dsimp only at hSw); go_simp <;> with_reducible rfl
          simp only [put_lit, List.set]
          refine wpAnyH_take (i := 17) (oi := ?_) (v := ?_) ?_ (by kernel_rfl) (by kernel_rfl) (by kernel_rfl) ?_ (Or.inl ⟨?_, ?_⟩) hHeld ?_
          rotate_left 2
          · simp only [List.getElem?_toArray, List.getElem?_cons_zero, List.getElem?_cons_succ]; with_reducible rfl
          · exact fun _ _ _ h => h
          · rfl
          · intro wS hSw; (try dsimp only at hSw); go_simp <;> with_reducible rfl
          simp only [put_lit, List.set]
          refine wpAnyH_take (i := 18) (oi := ?_) (v := undef) ?_ (by kernel_rfl) (by kernel_rfl) (by kernel_rfl) ?_ (Or.inr ⟨?_, rfl⟩) hHeld ?_
          rotate_left
          · simp only [List.getElem?_toArray, List.getElem?_cons_zero, List.getElem?_cons_succ]; with_reducible rfl
          · exact fun _ _ _ h => h
          · rfl
          simp only [put_lit, List.set]
          refine wpAnyH_take (i := 19) (oi := ?_) (v := undef) ?_ (by kernel_rfl) (by kernel_rfl) (by kernel_rfl) ?_ (Or.inr ⟨?_, rfl⟩) hHeld ?_
          rotate_left
          · simp only [List.getElem?_toArray, List.getElem?_cons_zero, List.getElem?_cons_succ]; with_reducible rfl
          · exact fun _ _ _ h => h
          · rfl
          simp only [put_lit, List.set]
          refine wpAnyH_take (i := 20) (oi := ?_) (v := undef) ?_ (by kernel_rfl) (by kernel_rfl) (by kernel_rfl) ?_ (Or.inr ⟨?_, rfl⟩) hHeld ?_
          rotate_left
          · simp only [List.getElem?_toArray, List.getElem?_cons_zero, List.getElem?_cons_succ]; with_reducible rfl
          · exact fun _ _ _ h => h
          · rfl
          simp only [put_lit, List.set]
          refine wpAnyH_take (i := 21) (oi := ?_) (v := undef) ?_ (by kernel_rfl) (by kernel_rfl) (by kernel_rfl) ?_ (Or.inr ⟨?_, rfl⟩) hHeld ?_
          rotate_left
          · simp only [List.getElem?_toArray, List.getElem?_cons_zero, List.getElem?_cons_succ]; with_reducible rfl
          · exact fun _ _ _ h => h
          · rfl
          simp only [put_lit, List.set]
          refine wpAnyH_take (i := 22) (oi := ?_) (v := undef) ?_ (by kernel_rfl) (by kernel_rfl) (by kernel_rfl) ?_ (Or.inr ⟨?_, rfl⟩) hHeld ?_
          rotate_left
          · simp only [List.getElem?_toArray, List.getElem?_cons_zero, List.getElem?_cons_succ]; with_reducible rfl
          · exact fun _ _ _ h => h
          · rfl
          simp only [put_lit, List.set]
          refine wpAnyH_take (i := 23) (oi := ?_) (v := undef) ?_ (by kernel_rfl) (by kernel_rfl) (by kernel_rfl) ?_ (Or.inr ⟨?_, rfl⟩) hHeld ?_
          rotate_left
          · simp only [List.getElem?_toArray, List.getElem?_cons_zero, List.getElem?_cons_succ]; with_reducible rfl
          · exact fun _ _ _ h => h
          · rfl
          simp only [put_lit, List.set]
          refine wpAnyH_take (i := 24) (oi := ?_) (v := undef) ?_ (by kernel_rfl) (by kernel_rfl) (by kernel_rfl) ?_ (Or.inr ⟨?_, rfl⟩) hHeld ?_
          rotate_left
          · simp only [List.getElem?_toArray, List.getElem?_cons_zero, List.getElem?_cons_succ]; with_reducible rfl
          · exact fun _ _ _ h => h
          · rfl
          simp only [put_lit, List.set]
          refine wpAnyH_take (i := 25) (oi := ?_) (v := undef) ?_ (by kernel_rfl) (by kernel_rfl) (by kernel_rfl) ?_ (Or.inr ⟨?_, rfl⟩) hHeld ?_
          rotate_left
          · simp only [List.getElem?_toArray, List.getElem?_cons_zero, List.getElem?_cons_succ]; with_reducible rfl
          · exact fun _ _ _ h => h
          · rfl
          simp only [put_lit, List.set]
          refine wpAnyH_take (i := 26) (oi := ?_) (v := undef) ?_ (by kernel_rfl) (by kernel_rfl) (by kernel_rfl) ?_ (Or.inr ⟨?_, rfl⟩) hHeld ?_
          rotate_left
          · simp only [List.getElem?_toArray, List.getElem?_cons_zero, List.getElem?_cons_succ]; with_reducible rfl
          · exact fun _ _ _ h => h
          · rfl
          simp only [put_lit, List.set]
          refine wpAnyH_take (i := 27) (oi := ?_) (v := undef) ?_ (by kernel_rfl) (by kernel_rfl) (by kernel_rfl) ?_ (Or.inr ⟨?_, rfl⟩) hHeld ?_
          rotate_left
          · simp only [List.getElem?_toArray, List.getElem?_cons_zero, List.getElem?_cons_succ]; with_reducible rfl
          · exact fun _ _ _ h => h
          · rfl
          simp only [put_lit, List.set]
          refine wpAnyH_take (i := 28) (oi := ?_) (v := undef) ?_ (by kernel_rfl) (by kernel_rfl) (by kernel_rfl) ?_ (Or.inr ⟨?_, rfl⟩) hHeld ?_
          rotate_left
          · simp only [List.getElem?_toArray, List.getElem?_cons_zero, List.getElem?_cons_succ]; with_reducible rfl
          · exact fun _ _ _ h => h
          · rfl
          simp only [put_lit, List.set]
          refine wpAnyH_take (i := 29) (oi := ?_) (v := undef) ?_ (by kernel_rfl) (by kernel_rfl) (by kernel_rfl) ?_ (Or.inr ⟨?_, rfl⟩) hHeld ?_
          rotate_left
          · simp only [List.getElem?_toArray, List.getElem?_cons_zero, List.getElem?_cons_succ]; with_reducible rfl
          · exact fun _ _ _ h => h
          · rfl
          simp only [put_lit, List.set]
          refine wpAnyH_take (i := 30) (oi := ?_) (v := undef) ?_ (by kernel_rfl) (by kernel_rfl) (by kernel_rfl) ?_ (Or.inr ⟨?_, rfl⟩) hHeld ?_
          rotate_left
          · simp only [List.getElem?_toArray, List.getElem?_cons_zero, List.getElem?_cons_succ]; with_reducible rfl
          · exact fun _ _ _ h => h
          · rfl
          simp only [put_lit, List.set]
          refine wpAnyH_take (i := 31) (oi := ?_) (v := ?_) ?_ (by kernel_rfl) (by kernel_rfl) (by kernel_rfl) ?_ (Or.inl ⟨?_, ?_⟩) hHeld ?_
          rotate_left 2
          · simp only [List.getElem?_toArray, List.getElem?_cons_zero, List.getElem?_cons_succ]; with_reducible rfl
          · exact fun _ _ _ h => h
          · rfl
          · intro wS hSw; (try dsimp only at hSw); go_simp <;> with_reducible rfl
          simp only [put_lit, List.set]
          refine wpAnyH_done (by kernel_rfl) ?_ _
          have HBB : Hid (Below w.heap.size w w2) := below_more HB.out hb2.out HB.out.size
          clear hHeld hb2 HC HB
          clear keepS hVd CCd
          go_wp2
          go_roundw
          case rel => exact ⟨k, i + 1, by omega, by omega, by go_num, by go_num, HS.out, HBB.out⟩
          case measure => simp [intOf]; omega
        · have hpq : qB 2 false l[i] = true := by rw [hx]; unfold qB; rw [hv]; simp [hp]
          rw [hx] at c0 c1 c2 c3 c4
          clear hv HSK
          by_cases hk0 : k = 0
          · subst hk0
            have HS : Hid (BestAt (qB 2 false) l (i + 1) (i + 1)) := H.out.take0 hlt hpq
            have h01 : (((0 : Nat) : Int) - 1) = -1 := by omega
            rw [h01]
            clear h01 hpq
            go_upto_region 5 with fail
            have HXX : Hid (l[i] = x) := hx
            have keepS : Hid (∀ X, Below wr.heap.size wr X → X.cell? ⟨b, off + i * 5, none⟩ = some (.int .i64 x.id) ∧ X.cell? ⟨b, off + i * 5 + 1, none⟩ = some (.int .i64 x.addr) ∧ X.cell? ⟨b, off + i * 5 + 2, none⟩ = some (.int .i64 x.prio) ∧ X.cell? ⟨b, off + i * 5 + 3, none⟩ = some (.int .i64 x.dr) ∧ X.cell? ⟨b, off + i * 5 + 4, none⟩ = some (.int .i64 x.bdr) ∧ Hid (Below wr.heap.size wr X)) := fun X hX => by
              obtain ⟨e0, e1, e2, e3, e4⟩ := HC.out X hX i hlt
              rw [HXX.out] at e0 e1 e2 e3 e4
              exact ⟨e0, e1, e2, e3, e4, hX⟩
            have hVd : Hid (Below wr.heap.size wr wr.drew) := (Below.refl _ _).drew
            have CCd : ∀ W (h : Below wr.heap.size wr W), Calls Try.prog 23 #[.agg (candA x)] W fun e w' => e = .returned (.int .i64 2) ∧ Hid (Below wr.heap.size wr w') := fun W h => (CC W).mono fun e w' ⟨h1, h2⟩ => ⟨h1, below_more h h2 h.size⟩
            clear CC hx c0 c1 c2 c3 c4
            refine wp_region_held_drew (S := (fun X => X.cell? ⟨b, off + i * 5, none⟩ = some (.int .i64 x.id) ∧ X.cell? ⟨b, off + i * 5 + 1, none⟩ = some (.int .i64 x.addr) ∧ X.cell? ⟨b, off + i * 5 + 2, none⟩ = some (.int .i64 x.prio) ∧ X.cell? ⟨b, off + i * 5 + 3, none⟩ = some (.int .i64 x.dr) ∧ X.cell? ⟨b, off + i * 5 + 4, none⟩ = some (.int .i64 x.bdr) ∧ Hid (Below wr.heap.size wr X))) (by kernel_rfl) ?_ (fun hHeld => ?_)
            · exact keepS.out _ hVd.out
            refine wpAnyH_take (i := 0) (oi := ?_) (v := ?_) ?_ (by kernel_rfl) (by kernel_rfl) (by kernel_rfl) ?_ (Or.inl ⟨?_, ?_⟩) hHeld ?_
            rotate_left 2
            · simp only [List.getElem?_toArray, List.getElem?_cons_zero]; with_reducible rfl
            · exact fun _ _ _ h => h
            · rfl
            · intro wS hSw; (try dsimp only at hSw); go_simp <;> with_reducible rfl
            simp only [put_lit, List.set]
            refine wpAnyH_take (i := 1) (oi := ?_) (v := ?_) ?_ (by kernel_rfl) (by kernel_rfl) (by kernel_rfl) ?_ (Or.inl ⟨?_, ?_⟩) hHeld ?_
            rotate_left 2
            · simp only [List.getElem?_toArray, List.getElem?_cons_zero, List.getElem?_cons_succ]; with_reducible rfl
            · exact fun _ _ _ h => h
            · rfl
            · intro wS hSw; (try dsimp only at hSw); go_simp <;> with_reducible rfl
            simp only [put_lit, List.set]
            refine wpAnyH_take (i := 2) (oi := ?_) (v := ?_) ?_ (by kernel_rfl) (by kernel_rfl) (by kernel_rfl) ?_ (Or.inl ⟨?_, ?_⟩) hHeld ?_
            rotate_left 2
            · simp only [List.getElem?_toArray, List.getElem?_cons_zero, List.getElem?_cons_succ]; with_reducible rfl
            · exact fun _ _ _ h => h
            · rfl
            · intro wS hSw; (try dsimp only at hSw); go_simp <;> with_reducible rfl
            simp only [put_lit, List.set]
            refine wpAnyH_take (i := 3) (oi := ?_) (v := ?_) ?_ (by kernel_rfl) (by kernel_rfl) (by kernel_rfl) ?_ (Or.inl ⟨?_, ?_⟩) hHeld ?_
            rotate_left 2
            · simp only [List.getElem?_toArray, List.getElem?_cons_zero, List.getElem?_cons_succ]; with_reducible rfl
            · exact fun _ _ _ h => h
            · rfl
            · intro wS hSw; (try dsimp only at hSw); go_simp <;> with_reducible rfl
            simp only [put_lit, List.set]
            refine wpAnyH_take (i := 4) (oi := ?_) (v := ?_) ?_ (by kernel_rfl) (by kernel_rfl) (by kernel_rfl) ?_ (Or.inl ⟨?_, ?_⟩) hHeld ?_
            rotate_left 2
            · simp only [List.getElem?_toArray, List.getElem?_cons_zero, List.getElem?_cons_succ]; with_reducible rfl
            · exact fun _ _ _ h => h
            · rfl
            · intro wS hSw; (try dsimp only at hSw); go_simp <;> with_reducible rfl
            simp only [put_lit, List.set]
            refine wpAnyH_take (i := 5) (oi := ?_) (v := ?_) ?_ (by kernel_rfl) (by kernel_rfl) (by kernel_rfl) ?_ (Or.inl ⟨?_, ?_⟩) hHeld ?_
            rotate_left 2
            · simp only [List.getElem?_toArray, List.getElem?_cons_zero, List.getElem?_cons_succ]; with_reducible rfl
            · exact fun _ _ _ h => h
            · rfl
            · intro wS hSw; (try dsimp only at hSw); go_simp <;> with_reducible rfl
            simp only [put_lit, List.set]
            refine wpAnyH_take (i := 6) (oi := ?_) (v := ?_) ?_ (by kernel_rfl) (by kernel_rfl) (by kernel_rfl) ?_ (Or.inl ⟨?_, ?_⟩) hHeld ?_
            rotate_left 2
            · simp only [List.getElem?_toArray, List.getElem?_cons_zero, List.getElem?_cons_succ]; with_reducible rfl
            · exact fun _ _ _ h => h
            · rfl
            · intro wS hSw; (try dsimp only at hSw); go_simp <;> with_reducible rfl
            simp only [put_lit, List.set]
            refine wpAnyH_take (i := 7) (oi := ?_) (v := ?_) ?_ (by kernel_rfl) (by kernel_rfl) (by kernel_rfl) ?_ (Or.inl ⟨?_, ?_⟩) hHeld ?_
            rotate_left 2
            · simp only [List.getElem?_toArray, List.getElem?_cons_zero, List.getElem?_cons_succ]; with_reducible rfl
            · exact fun _ _ _ h => h
            · rfl
            · intro wS hSw; (try dsimp only at hSw); go_simp <;> with_reducible rfl
            simp only [put_lit, List.set]
            refine wpAnyH_take (i := 8) (oi := ?_) (v := ?_) ?_ (by kernel_rfl) (by kernel_rfl) (by kernel_rfl) ?_ (Or.inl ⟨?_, ?_⟩) hHeld ?_
            rotate_left 2
            · simp only [List.getElem?_toArray, List.getElem?_cons_zero, List.getElem?_cons_succ]; with_reducible rfl
            · exact fun _ _ _ h => h
            · rfl
            · intro wS hSw; (try dsimp only at hSw); go_simp <;> with_reducible rfl
            simp only [put_lit, List.set]
            refine wpAnyH_take (i := 9) (oi := ?_) (v := ?_) ?_ (by kernel_rfl) (by kernel_rfl) (by kernel_rfl) ?_ (Or.inl ⟨?_, ?_⟩) hHeld ?_
            rotate_left 2
            · simp only [List.getElem?_toArray, List.getElem?_cons_zero, List.getElem?_cons_succ]; with_reducible rfl
            · exact fun _ _ _ h => h
            · rfl
            · intro wS hSw; (try dsimp only at hSw); go_simp <;> with_reducible rfl
            simp only [put_lit, List.set]
            refine wpAnyH_take (i := 10) (oi := ?_) (v := ?_) ?_ (by kernel_rfl) (by kernel_rfl) (by kernel_rfl) ?_ (Or.inl ⟨?_, ?_⟩) hHeld ?_
            rotate_left 2
            · simp only [List.getElem?_toArray, List.getElem?_cons_zero, List.getElem?_cons_succ]; with_reducible rfl
            · exact fun _ _ _ h => h
            · rfl
            · intro wS hSw; (try dsimp only at hSw); go_simp <;> with_reducible rfl
            simp only [put_lit, List.set]
            refine wpAnyH_take (i := 12) (oi := ?_) (v := ?_) ?_ (by kernel_rfl) (by kernel_rfl) (by kernel_rfl) ?_ (Or.inl ⟨?_, ?_⟩) hHeld ?_
            rotate_left 2
            · simp only [List.getElem?_toArray, List.getElem?_cons_zero, List.getElem?_cons_succ]; with_reducible rfl
            · exact fun _ _ _ h => h
            · rfl
            · intro wS hSw; (try dsimp only at hSw); go_simp <;> with_reducible rfl
            simp only [put_lit, List.set]
            refine wpAnyH_take (i := 14) (oi := ?_) (v := ?_) ?_ (by kernel_rfl) (by kernel_rfl) (by kernel_rfl) ?_ (Or.inl ⟨?_, ?_⟩) hHeld ?_
            rotate_left 2
            · simp only [List.getElem?_toArray, List.getElem?_cons_zero, List.getElem?_cons_succ]; with_reducible rfl
            · exact fun _ _ _ h => h
            · rfl
            · intro wS hSw; (try dsimp only at hSw); go_simp <;> with_reducible rfl
            simp only [put_lit, List.set]
            refine wpAnyH_ready (rs := [11]) (by kernel_rfl) (by simp) ?_
            refine AllReadyH.cons rfl (fun K hK => ?_) AllReadyH.nil
            go_simp
            go_at_call 23
            refine (CCd _ hVd.out).mono ?_
            rintro e w2 ⟨rfl, hb2⟩
            go_wp2_with fail
            refine hK.out _ _ ?_ (fun hHeld2 => ?_)
            · exact keepS.out _ hb2.out
            clear hK K hHeld
            have hHeld := hHeld2
            clear hHeld2
            (try simp only [put_lit, List.set])
            refine wpAnyH_take (i := 13) (oi := ?_) (v := ?_) ?_ (by kernel_rfl) (by kernel_rfl) (by kernel_rfl) ?_ (Or.inl ⟨?_, ?_⟩) hHeld ?_
            rotate_left 2
            · simp only [List.getElem?_toArray, List.getElem?_cons_zero, List.getElem?_cons_succ]; with_reducible rfl
            · exact fun _ _ _ h => h
            · rfl
            · intro wS hSw; (try dsimp only at hSw); go_simp <;> with_reducible rfl
            simp only [put_lit, List.set]
            refine wpAnyH_take (i := 15) (oi := ?_) (v := ?_) ?_ (by kernel_rfl) (by kernel_rfl) (by kernel_rfl) ?_ (Or.inl ⟨?_, ?_⟩) hHeld ?_
            rotate_left 2
            · simp only [List.getElem?_toArray, List.getElem?_cons_zero, List.getElem?_cons_succ]; with_reducible rfl
            · exact fun _ _ _ h => h
            · rfl
            · intro wS hSw; (try dsimp only at hSw); go_simp <;> with_reducible rfl
            simp only [put_lit, List.set]
            refine wpAnyH_take (i := 16) (oi := ?_) (v := ?_) ?_ (by kernel_rfl) (by kernel_rfl) (by kernel_rfl) ?_ (Or.inl ⟨?_, ?_⟩) hHeld ?_
            rotate_left 2
            · simp only [List.getElem?_toArray, List.getElem?_cons_zero, List.getElem?_cons_succ]; with_reducible rfl
            · exact fun _ _ _ h => h
            · rfl
            · intro wS hSw; (try dsimp only at hSw); go_simp <;> with_reducible rfl
            simp only [put_lit, List.set]
            refine wpAnyH_take (i := 17) (oi := ?_) (v := ?_) ?_ (by kernel_rfl) (by kernel_rfl) (by kernel_rfl) ?_ (Or.inl ⟨?_, ?_⟩) hHeld ?_
            rotate_left 2
            · simp only [List.getElem?_toArray, List.getElem?_cons_zero, List.getElem?_cons_succ]; with_reducible rfl
            · exact fun _ _ _ h => h
            · rfl
            · intro wS hSw; (try dsimp only at hSw); go_simp <;> with_reducible rfl
            simp only [put_lit, List.set]
            refine wpAnyH_take (i := 18) (oi := ?_) (v := ?_) ?_ (by kernel_rfl) (by kernel_rfl) (by kernel_rfl) ?_ (Or.inl ⟨?_, ?_⟩) hHeld ?_
            rotate_left 2
            · simp only [List.getElem?_toArray, List.getElem?_cons_zero, List.getElem?_cons_succ]; with_reducible rfl
            · exact fun _ _ _ h => h
            · rfl
            · intro wS hSw; (try dsimp only at hSw); go_simp <;> with_reducible rfl
            simp only [put_lit, List.set]
            refine wpAnyH_take (i := 19) (oi := ?_) (v := ?_) ?_ (by kernel_rfl) (by kernel_rfl) (by kernel_rfl) ?_ (Or.inl ⟨?_, ?_⟩) hHeld ?_
            rotate_left 2
            · simp only [List.getElem?_toArray, List.getElem?_cons_zero, List.getElem?_cons_succ]; with_reducible rfl
            · exact fun _ _ _ h => h
            · rfl
            · intro wS hSw; (try dsimp only at hSw); go_simp <;> with_reducible rfl
            simp only [put_lit, List.set]
            refine wpAnyH_take (i := 20) (oi := ?_) (v := ?_) ?_ (by kernel_rfl) (by kernel_rfl) (by kernel_rfl) ?_ (Or.inl ⟨?_, ?_⟩) hHeld ?_
            rotate_left 2
            · simp only [List.getElem?_toArray, List.getElem?_cons_zero, List.getElem?_cons_succ]; with_reducible rfl
            · exact fun _ _ _ h => h
            · rfl
            · intro wS hSw; (try dsimp only at hSw); go_simp <;> with_reducible rfl
            simp only [put_lit, List.set]
            refine wpAnyH_take (i := 21) (oi := ?_) (v := undef) ?_ (by kernel_rfl) (by kernel_rfl) (by kernel_rfl) ?_ (Or.inr ⟨?_, rfl⟩) hHeld ?_
            rotate_left
            · simp only [List.getElem?_toArray, List.getElem?_cons_zero, List.getElem?_cons_succ]; with_reducible rfl
            · exact fun _ _ _ h => h
            · rfl
            simp only [put_lit, List.set]
            refine wpAnyH_take (i := 22) (oi := ?_) (v := undef) ?_ (by kernel_rfl) (by kernel_rfl) (by kernel_rfl) ?_ (Or.inr ⟨?_, rfl⟩) hHeld ?_
            rotate_left
            · simp only [List.getElem?_toArray, List.getElem?_cons_zero, List.getElem?_cons_succ]; with_reducible rfl
            · exact fun _ _ _ h => h
            · rfl
            simp only [put_lit, List.set]
            refine wpAnyH_take (i := 23) (oi := ?_) (v := undef) ?_ (by kernel_rfl) (by kernel_rfl) (by kernel_rfl) ?_ (Or.inr ⟨?_, rfl⟩) hHeld ?_
            rotate_left
            · simp only [List.getElem?_toArray, List.getElem?_cons_zero, List.getElem?_cons_succ]; with_reducible rfl
            · exact fun _ _ _ h => h
            · rfl
            simp only [put_lit, List.set]
            refine wpAnyH_take (i := 24) (oi := ?_) (v := undef) ?_ (by kernel_rfl) (by kernel_rfl) (by kernel_rfl) ?_ (Or.inr ⟨?_, rfl⟩) hHeld ?_
            rotate_left
            · simp only [List.getElem?_toArray, List.getElem?_cons_zero, List.getElem?_cons_succ]; with_reducible rfl
            · exact fun _ _ _ h => h
            · rfl
            simp only [put_lit, List.set]
            refine wpAnyH_take (i := 25) (oi := ?_) (v := undef) ?_ (by kernel_rfl) (by kernel_rfl) (by kernel_rfl) ?_ (Or.inr ⟨?_, rfl⟩) hHeld ?_
            rotate_left
            · simp only [List.getElem?_toArray, List.getElem?_cons_zero, List.getElem?_cons_succ]; with_reducible rfl
            · exact fun _ _ _ h => h
            · rfl
            simp only [put_lit, List.set]
            refine wpAnyH_take (i := 26) (oi := ?_) (v := undef) ?_ (by kernel_rfl) (by kernel_rfl) (by kernel_rfl) ?_ (Or.inr ⟨?_, rfl⟩) hHeld ?_
            rotate_left
            · simp only [List.getElem?_toArray, List.getElem?_cons_zero, List.getElem?_cons_succ]; with_reducible rfl
            · exact fun _ _ _ h => h
            · rfl
            simp only [put_lit, List.set]
            refine wpAnyH_take (i := 27) (oi := ?_) (v := undef) ?_ (by kernel_rfl) (by kernel_rfl) (by kernel_rfl) ?_ (Or.inr ⟨?_, rfl⟩) hHeld ?_
            rotate_left
            · simp only [List.getElem?_toArray, List.getElem?_cons_zero, List.getElem?_cons_succ]; with_reducible rfl
            · exact fun _ _ _ h => h
            · rfl
            simp only [put_lit, List.set]
            refine wpAnyH_take (i := 28) (oi := ?_) (v := undef) ?_ (by kernel_rfl) (by kernel_rfl) (by kernel_rfl) ?_ (Or.inr ⟨?_, rfl⟩) hHeld ?_
            rotate_left
            · simp only [List.getElem?_toArray, List.getElem?_cons_zero, List.getElem?_cons_succ]; with_reducible rfl
            · exact fun _ _ _ h => h
            · rfl
            simp only [put_lit, List.set]
            refine wpAnyH_take (i := 29) (oi := ?_) (v := undef) ?_ (by kernel_rfl) (by kernel_rfl) (by kernel_rfl) ?_ (Or.inr ⟨?_, rfl⟩) hHeld ?_
            rotate_left
            · simp only [List.getElem?_toArray, List.getElem?_cons_zero, List.getElem?_cons_succ]; with_reducible rfl
            · exact fun _ _ _ h => h
            · rfl
            simp only [put_lit, List.set]
            refine wpAnyH_take (i := 30) (oi := ?_) (v := ?_) ?_ (by kernel_rfl) (by kernel_rfl) (by kernel_rfl) ?_ (Or.inl ⟨?_, ?_⟩) hHeld ?_
            rotate_left 2
            · simp only [List.getElem?_toArray, List.getElem?_cons_zero, List.getElem?_cons_succ]; with_reducible rfl
            · exact fun _ _ _ h => h
            · rfl
            · intro wS hSw; (try dsimp only at hSw); go_simp <;> with_reducible rfl
            simp only [put_lit, List.set]
            refine wpAnyH_take (i := 31) (oi := ?_) (v := ?_) ?_ (by kernel_rfl) (by kernel_rfl) (by kernel_rfl) ?_ (Or.inl ⟨?_, ?_⟩) hHeld ?_
            rotate_left 2
            · simp only [List.getElem?_toArray, List.getElem?_cons_zero, List.getElem?_cons_succ]; with_reducible rfl
            · exact fun _ _ _ h => h
            · rfl
            · intro wS hSw; (try dsimp only at hSw); go_simp <;> with_reducible rfl
            simp only [put_lit, List.set]
            refine wpAnyH_done (by kernel_rfl) ?_ _
            have HBB : Hid (Below w.heap.size w w2) := below_more HB.out hb2.out HB.out.size
            clear hHeld hb2 HC HB
            clear keepS hVd CCd
            go_wp2
            go_roundw
            case rel => exact ⟨i + 1, i + 1, by omega, by omega, by go_num, by go_num, HS.out, HBB.out⟩
            case measure => simp [intOf]; omega
          · obtain ⟨m, rfl⟩ : ∃ m, k = m + 1 := ⟨k - 1, by omega⟩
            have hml : m < l.length := by omega
            have h01 : (((m + 1 : Nat) : Int) - 1) = (m : Int) := by omega
            rw [h01]
            clear h01
            have hmI : (m : Int) < (l.length : Int) := by omega
            have HT1 : Hid (LeC l[m] l[i] → BestAt (qB 2 false) l (i + 1) (i + 1)) := fun h => H.out.take1 hlt hpq (by simpa using hml) (by simpa using h) (by omega)
            have HT2 : Hid (LeC l[i] l[m] → BestAt (qB 2 false) l (i + 1) (m + 1)) := fun h => H.out.keep hlt (by simpa using hml) (by simpa using h) (by omega)
            obtain ⟨y, hy⟩ : ∃ y, l[m] = y := ⟨_, rfl⟩
            rw [hx, hy] at HT1 HT2
            have HYY : Hid (l[m] = y) := hy
            obtain ⟨d0, d1, d2, d3, d4⟩ := HC.out wr (Below.refl _ _) m hml
            rw [hy] at d0 d1 d2 d3 d4
            have HTQ : Hid (∀ q, bettB x y = q → BestAt (qB 2 false) l (i + 1) (if q then i + 1 else m + 1)) := fun q hq => by
              cases q
              · exact HT2.out (bett_no hq)
              · exact HT1.out (bett_yes hq)
            have CB := rbetter_any x y
            obtain ⟨q, hq⟩ : ∃ q, bettB x y = q := ⟨_, rfl⟩
            have HS : Hid (BestAt (qB 2 false) l (i + 1) (if q then i + 1 else m + 1)) := HTQ.out q hq
            rw [hq] at CB
            clear hpq HT1 HT2 HTQ hq
            go_upto_region 5 with fail
            have HXX : Hid (l[i] = x) := hx
            have keepS : Hid (∀ X, Below wr.heap.size wr X → X.cell? ⟨b, off + i * 5, none⟩ = some (.int .i64 x.id) ∧ X.cell? ⟨b, off + i * 5 + 1, none⟩ = some (.int .i64 x.addr) ∧ X.cell? ⟨b, off + i * 5 + 2, none⟩ = some (.int .i64 x.prio) ∧ X.cell? ⟨b, off + i * 5 + 3, none⟩ = some (.int .i64 x.dr) ∧ X.cell? ⟨b, off + i * 5 + 4, none⟩ = some (.int .i64 x.bdr) ∧ X.cell? ⟨b, off + m * 5, none⟩ = some (.int .i64 y.id) ∧ X.cell? ⟨b, off + m * 5 + 1, none⟩ = some (.int .i64 y.addr) ∧ X.cell? ⟨b, off + m * 5 + 2, none⟩ = some (.int .i64 y.prio) ∧ X.cell? ⟨b, off + m * 5 + 3, none⟩ = some (.int .i64 y.dr) ∧ X.cell? ⟨b, off + m * 5 + 4, none⟩ = some (.int .i64 y.bdr) ∧ Hid (Below wr.heap.size wr X)) := fun X hX => by
              obtain ⟨e0, e1, e2, e3, e4⟩ := HC.out X hX i hlt
              rw [HXX.out] at e0 e1 e2 e3 e4
              obtain ⟨f0, f1, f2, f3, f4⟩ := HC.out X hX m hml
              rw [HYY.out] at f0 f1 f2 f3 f4
              exact ⟨e0, e1, e2, e3, e4, f0, f1, f2, f3, f4, hX⟩
            have hVd : Hid (Below wr.heap.size wr wr.drew) := (Below.refl _ _).drew
            have CCd : ∀ W (h : Below wr.heap.size wr W), Calls Try.prog 23 #[.agg (candA x)] W fun e w' => e = .returned (.int .i64 2) ∧ Hid (Below wr.heap.size wr w') := fun W h => (CC W).mono fun e w' ⟨h1, h2⟩ => ⟨h1, below_more h h2 h.size⟩
            have CBd : ∀ W (h : Below wr.heap.size wr W), Calls Try.prog 24 #[.agg (candA x), .agg (candA y)] W fun e w' => e = .returned (.bool q) ∧ Hid (Below wr.heap.size wr w') := fun W h => (CB W).mono fun e w' ⟨h1, h2⟩ => ⟨h1, below_more h h2 h.size⟩
            clear CC CB hx hy c0 c1 c2 c3 c4 d0 d1 d2 d3 d4
            refine wp_region_held_drew (S := (fun X => X.cell? ⟨b, off + i * 5, none⟩ = some (.int .i64 x.id) ∧ X.cell? ⟨b, off + i * 5 + 1, none⟩ = some (.int .i64 x.addr) ∧ X.cell? ⟨b, off + i * 5 + 2, none⟩ = some (.int .i64 x.prio) ∧ X.cell? ⟨b, off + i * 5 + 3, none⟩ = some (.int .i64 x.dr) ∧ X.cell? ⟨b, off + i * 5 + 4, none⟩ = some (.int .i64 x.bdr) ∧ X.cell? ⟨b, off + m * 5, none⟩ = some (.int .i64 y.id) ∧ X.cell? ⟨b, off + m * 5 + 1, none⟩ = some (.int .i64 y.addr) ∧ X.cell? ⟨b, off + m * 5 + 2, none⟩ = some (.int .i64 y.prio) ∧ X.cell? ⟨b, off + m * 5 + 3, none⟩ = some (.int .i64 y.dr) ∧ X.cell? ⟨b, off + m * 5 + 4, none⟩ = some (.int .i64 y.bdr) ∧ Hid (Below wr.heap.size wr X))) (by kernel_rfl) ?_ (fun hHeld => ?_)
            · exact keepS.out _ hVd.out
            refine wpAnyH_take (i := 0) (oi := ?_) (v := ?_) ?_ (by kernel_rfl) (by kernel_rfl) (by kernel_rfl) ?_ (Or.inl ⟨?_, ?_⟩) hHeld ?_
            rotate_left 2
            · simp only [List.getElem?_toArray, List.getElem?_cons_zero]; with_reducible rfl
            · exact fun _ _ _ h => h
            · rfl
            · intro wS hSw; (try dsimp only at hSw); go_simp <;> with_reducible rfl
            simp only [put_lit, List.set]
            refine wpAnyH_take (i := 1) (oi := ?_) (v := ?_) ?_ (by kernel_rfl) (by kernel_rfl) (by kernel_rfl) ?_ (Or.inl ⟨?_, ?_⟩) hHeld ?_
            rotate_left 2
            · simp only [List.getElem?_toArray, List.getElem?_cons_zero, List.getElem?_cons_succ]; with_reducible rfl
            · exact fun _ _ _ h => h
            · rfl
            · intro wS hSw; (try dsimp only at hSw); go_simp <;> with_reducible rfl
            simp only [put_lit, List.set]
            refine wpAnyH_take (i := 2) (oi := ?_) (v := ?_) ?_ (by kernel_rfl) (by kernel_rfl) (by kernel_rfl) ?_ (Or.inl ⟨?_, ?_⟩) hHeld ?_
            rotate_left 2
            · simp only [List.getElem?_toArray, List.getElem?_cons_zero, List.getElem?_cons_succ]; with_reducible rfl
            · exact fun _ _ _ h => h
            · rfl
            · intro wS hSw; (try dsimp only at hSw); go_simp <;> with_reducible rfl
            simp only [put_lit, List.set]
            refine wpAnyH_take (i := 3) (oi := ?_) (v := ?_) ?_ (by kernel_rfl) (by kernel_rfl) (by kernel_rfl) ?_ (Or.inl ⟨?_, ?_⟩) hHeld ?_
            rotate_left 2
            · simp only [List.getElem?_toArray, List.getElem?_cons_zero, List.getElem?_cons_succ]; with_reducible rfl
            · exact fun _ _ _ h => h
            · rfl
            · intro wS hSw; (try dsimp only at hSw); go_simp <;> with_reducible rfl
            simp only [put_lit, List.set]
            refine wpAnyH_take (i := 4) (oi := ?_) (v := ?_) ?_ (by kernel_rfl) (by kernel_rfl) (by kernel_rfl) ?_ (Or.inl ⟨?_, ?_⟩) hHeld ?_
            rotate_left 2
            · simp only [List.getElem?_toArray, List.getElem?_cons_zero, List.getElem?_cons_succ]; with_reducible rfl
            · exact fun _ _ _ h => h
            · rfl
            · intro wS hSw; (try dsimp only at hSw); go_simp <;> with_reducible rfl
            simp only [put_lit, List.set]
            refine wpAnyH_take (i := 5) (oi := ?_) (v := ?_) ?_ (by kernel_rfl) (by kernel_rfl) (by kernel_rfl) ?_ (Or.inl ⟨?_, ?_⟩) hHeld ?_
            rotate_left 2
            · simp only [List.getElem?_toArray, List.getElem?_cons_zero, List.getElem?_cons_succ]; with_reducible rfl
            · exact fun _ _ _ h => h
            · rfl
            · intro wS hSw; (try dsimp only at hSw); go_simp <;> with_reducible rfl
            simp only [put_lit, List.set]
            refine wpAnyH_take (i := 6) (oi := ?_) (v := ?_) ?_ (by kernel_rfl) (by kernel_rfl) (by kernel_rfl) ?_ (Or.inl ⟨?_, ?_⟩) hHeld ?_
            rotate_left 2
            · simp only [List.getElem?_toArray, List.getElem?_cons_zero, List.getElem?_cons_succ]; with_reducible rfl
            · exact fun _ _ _ h => h
            · rfl
            · intro wS hSw; (try dsimp only at hSw); go_simp <;> with_reducible rfl
            simp only [put_lit, List.set]
            refine wpAnyH_take (i := 7) (oi := ?_) (v := ?_) ?_ (by kernel_rfl) (by kernel_rfl) (by kernel_rfl) ?_ (Or.inl ⟨?_, ?_⟩) hHeld ?_
            rotate_left 2
            · simp only [List.getElem?_toArray, List.getElem?_cons_zero, List.getElem?_cons_succ]; with_reducible rfl
            · exact fun _ _ _ h => h
            · rfl
            · intro wS hSw; (try dsimp only at hSw); go_simp <;> with_reducible rfl
            simp only [put_lit, List.set]
            refine wpAnyH_take (i := 8) (oi := ?_) (v := ?_) ?_ (by kernel_rfl) (by kernel_rfl) (by kernel_rfl) ?_ (Or.inl ⟨?_, ?_⟩) hHeld ?_
            rotate_left 2
            · simp only [List.getElem?_toArray, List.getElem?_cons_zero, List.getElem?_cons_succ]; with_reducible rfl
            · exact fun _ _ _ h => h
            · rfl
            · intro wS hSw; (try dsimp only at hSw); go_simp <;> with_reducible rfl
            simp only [put_lit, List.set]
            refine wpAnyH_take (i := 9) (oi := ?_) (v := ?_) ?_ (by kernel_rfl) (by kernel_rfl) (by kernel_rfl) ?_ (Or.inl ⟨?_, ?_⟩) hHeld ?_
            rotate_left 2
            · simp only [List.getElem?_toArray, List.getElem?_cons_zero, List.getElem?_cons_succ]; with_reducible rfl
            · exact fun _ _ _ h => h
            · rfl
            · intro wS hSw; (try dsimp only at hSw); go_simp <;> with_reducible rfl
            simp only [put_lit, List.set]
            refine wpAnyH_take (i := 10) (oi := ?_) (v := ?_) ?_ (by kernel_rfl) (by kernel_rfl) (by kernel_rfl) ?_ (Or.inl ⟨?_, ?_⟩) hHeld ?_
            rotate_left 2
            · simp only [List.getElem?_toArray, List.getElem?_cons_zero, List.getElem?_cons_succ]; with_reducible rfl
            · exact fun _ _ _ h => h
            · rfl
            · intro wS hSw; (try dsimp only at hSw); go_simp <;> with_reducible rfl
            simp only [put_lit, List.set]
            refine wpAnyH_take (i := 12) (oi := ?_) (v := ?_) ?_ (by kernel_rfl) (by kernel_rfl) (by kernel_rfl) ?_ (Or.inl ⟨?_, ?_⟩) hHeld ?_
            rotate_left 2
            · simp only [List.getElem?_toArray, List.getElem?_cons_zero, List.getElem?_cons_succ]; with_reducible rfl
            · exact fun _ _ _ h => h
            · rfl
            · intro wS hSw; (try dsimp only at hSw); go_simp <;> with_reducible rfl
            simp only [put_lit, List.set]
            refine wpAnyH_take (i := 14) (oi := ?_) (v := ?_) ?_ (by kernel_rfl) (by kernel_rfl) (by kernel_rfl) ?_ (Or.inl ⟨?_, ?_⟩) hHeld ?_
            rotate_left 2
            · simp only [List.getElem?_toArray, List.getElem?_cons_zero, List.getElem?_cons_succ]; with_reducible rfl
            · exact fun _ _ _ h => h
            · rfl
            · intro wS hSw; (try dsimp only at hSw); go_simp <;> with_reducible rfl
            simp only [put_lit, List.set]
            refine wpAnyH_ready (rs := [11]) (by kernel_rfl) (by simp) ?_
            refine AllReadyH.cons rfl (fun K hK => ?_) AllReadyH.nil
            go_simp
            go_at_call 23
            refine (CCd _ hVd.out).mono ?_
            rintro e w2 ⟨rfl, hb2⟩
            go_wp2_with fail
            refine hK.out _ _ ?_ (fun hHeld2 => ?_)
            · exact keepS.out _ hb2.out
            clear hK K hHeld
            have hHeld := hHeld2
            clear hHeld2
            (try simp only [put_lit, List.set])
            refine wpAnyH_take (i := 13) (oi := ?_) (v := ?_) ?_ (by kernel_rfl) (by kernel_rfl) (by kernel_rfl) ?_ (Or.inl ⟨?_, ?_⟩) hHeld ?_
            rotate_left 2
            · simp only [List.getElem?_toArray, List.getElem?_cons_zero, List.getElem?_cons_succ]; with_reducible rfl
            · exact fun _ _ _ h => h
            · rfl
            · intro wS hSw; (try dsimp only at hSw); go_simp <;> with_reducible rfl
            simp only [put_lit, List.set]
            refine wpAnyH_take (i := 15) (oi := ?_) (v := ?_) ?_ (by kernel_rfl) (by kernel_rfl) (by kernel_rfl) ?_ (Or.inl ⟨?_, ?_⟩) hHeld ?_
            rotate_left 2
            · simp only [List.getElem?_toArray, List.getElem?_cons_zero, List.getElem?_cons_succ]; with_reducible rfl
            · exact fun _ _ _ h => h
            · rfl
            · intro wS hSw; (try dsimp only at hSw); go_simp <;> with_reducible rfl
            simp only [put_lit, List.set]
            refine wpAnyH_take (i := 16) (oi := ?_) (v := ?_) ?_ (by kernel_rfl) (by kernel_rfl) (by kernel_rfl) ?_ (Or.inl ⟨?_, ?_⟩) hHeld ?_
            rotate_left 2
            · simp only [List.getElem?_toArray, List.getElem?_cons_zero, List.getElem?_cons_succ]; with_reducible rfl
            · exact fun _ _ _ h => h
            · rfl
            · intro wS hSw; (try dsimp only at hSw); go_simp <;> with_reducible rfl
            simp only [put_lit, List.set]
            refine wpAnyH_take (i := 17) (oi := ?_) (v := ?_) ?_ (by kernel_rfl) (by kernel_rfl) (by kernel_rfl) ?_ (Or.inl ⟨?_, ?_⟩) hHeld ?_
            rotate_left 2
            · simp only [List.getElem?_toArray, List.getElem?_cons_zero, List.getElem?_cons_succ]; with_reducible rfl
            · exact fun _ _ _ h => h
            · rfl
            · intro wS hSw; (try dsimp only at hSw); go_simp <;> with_reducible rfl
            simp only [put_lit, List.set]
            refine wpAnyH_take (i := 18) (oi := ?_) (v := ?_) ?_ (by kernel_rfl) (by kernel_rfl) (by kernel_rfl) ?_ (Or.inl ⟨?_, ?_⟩) hHeld ?_
            rotate_left 2
            · simp only [List.getElem?_toArray, List.getElem?_cons_zero, List.getElem?_cons_succ]; with_reducible rfl
            · exact fun _ _ _ h => h
            · rfl
            · intro wS hSw; (try dsimp only at hSw); go_simp <;> with_reducible rfl
            simp only [put_lit, List.set]
            refine wpAnyH_take (i := 19) (oi := ?_) (v := ?_) ?_ (by kernel_rfl) (by kernel_rfl) (by kernel_rfl) ?_ (Or.inl ⟨?_, ?_⟩) hHeld ?_
            rotate_left 2
            · simp only [List.getElem?_toArray, List.getElem?_cons_zero, List.getElem?_cons_succ]; with_reducible rfl
            · exact fun _ _ _ h => h
            · rfl
            · intro wS hSw; (try dsimp only at hSw); go_simp <;> with_reducible rfl
            simp only [put_lit, List.set]
            refine wpAnyH_take (i := 20) (oi := ?_) (v := ?_) ?_ (by kernel_rfl) (by kernel_rfl) (by kernel_rfl) ?_ (Or.inl ⟨?_, ?_⟩) hHeld ?_
            rotate_left 2
            · simp only [List.getElem?_toArray, List.getElem?_cons_zero, List.getElem?_cons_succ]; with_reducible rfl
            · exact fun _ _ _ h => h
            · rfl
            · intro wS hSw; (try dsimp only at hSw); go_simp <;> with_reducible rfl
            simp only [put_lit, List.set]
            refine wpAnyH_take (i := 21) (oi := ?_) (v := ?_) ?_ (by kernel_rfl) (by kernel_rfl) (by kernel_rfl) ?_ (Or.inl ⟨?_, ?_⟩) hHeld ?_
            rotate_left 2
            · simp only [List.getElem?_toArray, List.getElem?_cons_zero, List.getElem?_cons_succ]; with_reducible rfl
            · exact fun _ _ _ h => h
            · rfl
            · intro wS hSw; (try dsimp only at hSw); go_simp <;> with_reducible rfl
            simp only [put_lit, List.set]
            refine wpAnyH_take (i := 22) (oi := ?_) (v := ?_) ?_ (by kernel_rfl) (by kernel_rfl) (by kernel_rfl) ?_ (Or.inl ⟨?_, ?_⟩) hHeld ?_
            rotate_left 2
            · simp only [List.getElem?_toArray, List.getElem?_cons_zero, List.getElem?_cons_succ]; with_reducible rfl
            · exact fun _ _ _ h => h
            · rfl
            · intro wS hSw; (try dsimp only at hSw); go_simp <;> with_reducible rfl
            simp only [put_lit, List.set]
            refine wpAnyH_take (i := 23) (oi := ?_) (v := ?_) ?_ (by kernel_rfl) (by kernel_rfl) (by kernel_rfl) ?_ (Or.inl ⟨?_, ?_⟩) hHeld ?_
            rotate_left 2
            · simp only [List.getElem?_toArray, List.getElem?_cons_zero, List.getElem?_cons_succ]; with_reducible rfl
            · exact fun _ _ _ h => h
            · rfl
            · intro wS hSw; (try dsimp only at hSw); go_simp <;> with_reducible rfl
            simp only [put_lit, List.set]
            refine wpAnyH_take (i := 24) (oi := ?_) (v := ?_) ?_ (by kernel_rfl) (by kernel_rfl) (by kernel_rfl) ?_ (Or.inl ⟨?_, ?_⟩) hHeld ?_
            rotate_left 2
            · simp only [List.getElem?_toArray, List.getElem?_cons_zero, List.getElem?_cons_succ]; with_reducible rfl
            · exact fun _ _ _ h => h
            · rfl
            · intro wS hSw; (try dsimp only at hSw); go_simp <;> with_reducible rfl
            simp only [put_lit, List.set]
            refine wpAnyH_take (i := 25) (oi := ?_) (v := ?_) ?_ (by kernel_rfl) (by kernel_rfl) (by kernel_rfl) ?_ (Or.inl ⟨?_, ?_⟩) hHeld ?_
            rotate_left 2
            · simp only [List.getElem?_toArray, List.getElem?_cons_zero, List.getElem?_cons_succ]; with_reducible rfl
            · exact fun _ _ _ h => h
            · rfl
            · intro wS hSw; (try dsimp only at hSw); go_simp <;> with_reducible rfl
            simp only [put_lit, List.set]
            refine wpAnyH_take (i := 26) (oi := ?_) (v := ?_) ?_ (by kernel_rfl) (by kernel_rfl) (by kernel_rfl) ?_ (Or.inl ⟨?_, ?_⟩) hHeld ?_
            rotate_left 2
            · simp only [List.getElem?_toArray, List.getElem?_cons_zero, List.getElem?_cons_succ]; with_reducible rfl
            · exact fun _ _ _ h => h
            · rfl
            · intro wS hSw; (try dsimp only at hSw); go_simp <;> with_reducible rfl
            simp only [put_lit, List.set]
            refine wpAnyH_take (i := 27) (oi := ?_) (v := ?_) ?_ (by kernel_rfl) (by kernel_rfl) (by kernel_rfl) ?_ (Or.inl ⟨?_, ?_⟩) hHeld ?_
            rotate_left 2
            · simp only [List.getElem?_toArray, List.getElem?_cons_zero, List.getElem?_cons_succ]; with_reducible rfl
            · exact fun _ _ _ h => h
            · rfl
            · intro wS hSw; (try dsimp only at hSw); go_simp <;> with_reducible rfl
            simp only [put_lit, List.set]
            refine wpAnyH_take (i := 28) (oi := ?_) (v := ?_) ?_ (by kernel_rfl) (by kernel_rfl) (by kernel_rfl) ?_ (Or.inl ⟨?_, ?_⟩) hHeld ?_
            rotate_left 2
            · simp only [List.getElem?_toArray, List.getElem?_cons_zero, List.getElem?_cons_succ]; with_reducible rfl
            · exact fun _ _ _ h => h
            · rfl
            · intro wS hSw; (try dsimp only at hSw); go_simp <;> with_reducible rfl
            simp only [put_lit, List.set]
            refine wpAnyH_ready (rs := [29]) (by kernel_rfl) (by simp) ?_
            refine AllReadyH.cons rfl (fun K hK => ?_) AllReadyH.nil
            go_simp
            go_at_call 24
            refine (CBd _ hb2.out).mono ?_
            rintro e w3 ⟨rfl, hb3⟩
            go_wp2_with fail
            refine hK.out _ _ ?_ (fun hHeld2 => ?_)
            · exact keepS.out _ hb3.out
            clear hK K hHeld
            have hHeld := hHeld2
            clear hHeld2
            (try simp only [put_lit, List.set])
            refine wpAnyH_take (i := 30) (oi := ?_) (v := ?_) ?_ (by kernel_rfl) (by kernel_rfl) (by kernel_rfl) ?_ (Or.inl ⟨?_, ?_⟩) hHeld ?_
            rotate_left 2
            · simp only [List.getElem?_toArray, List.getElem?_cons_zero, List.getElem?_cons_succ]; with_reducible rfl
            · exact fun _ _ _ h => h
            · rfl
            · intro wS hSw; (try dsimp only at hSw); go_simp <;> with_reducible rfl
            simp only [put_lit, List.set]
            refine wpAnyH_take (i := 31) (oi := ?_) (v := ?_) ?_ (by kernel_rfl) (by kernel_rfl) (by kernel_rfl) ?_ (Or.inl ⟨?_, ?_⟩) hHeld ?_
            rotate_left 2
            · simp only [List.getElem?_toArray, List.getElem?_cons_zero, List.getElem?_cons_succ]; with_reducible rfl
            · exact fun _ _ _ h => h
            · rfl
            · intro wS hSw; (try dsimp only at hSw); go_simp <;> with_reducible rfl
            simp only [put_lit, List.set]
            refine wpAnyH_done (by kernel_rfl) ?_ _
            have HBB : Hid (Below w.heap.size w w3) := below_more HB.out hb3.out HB.out.size
            clear hHeld hb2 hb3 HC HB CBd
            have hm0 : ¬ ((m : Int) < 0) := by omega
            cases q
            · clear keepS hVd CCd
              go_wp2
              all_goals first | (exfalso; simp_all; done) | (exfalso; rename_i hh; rcases hh with hh | hh <;> first | exact absurd hh hm0 | (cases hh; done)) | skip
              go_roundw
              case rel => exact ⟨m + 1, i + 1, by omega, by omega, (congrArg (Value.int IntKind.i64) (show (m : Int) = ((m + 1 : Nat) : Int) - 1 from by omega)), by go_num, HS.out, HBB.out⟩
              case measure => simp [intOf]; omega
            · clear keepS hVd CCd
              go_wp2
              all_goals first | (exfalso; simp_all; done) | (exfalso; rename_i hh; rcases hh with hh | hh <;> first | exact absurd hh hm0 | (cases hh; done)) | skip
              go_roundw
              case rel => exact ⟨i + 1, i + 1, by omega, by omega, by go_num, by go_num, HS.out, HBB.out⟩
              case measure => simp [intOf]; omega
      · have HS : Hid (BestAt (qB 2 false) l (i + 1) k) := HSK.out (by rw [hx]; unfold qB; simp [hp])
        rw [hx] at c0 c1 c2 c3 c4
        clear HSK hx
        go_upto_region 5 with fail
        go_quiet (fail)
        have HB2 : Hid (Below w.heap.size w (wr.drewN nq)) := HB.out.trans ⟨rfl, rfl, rfl, Nat.le_refl _, fun _ _ => rfl⟩
        generalize wr.drewN nq = w3 at *
        clear c0 c1 c2 c3 c4 HB HC
        go_wp2
        go_roundw
        case rel => exact ⟨k, i + 1, by omega, by omega, by go_num, by go_num, HS.out, HB2.out⟩
        case measure => simp [intOf]; omega
    · have hke : i = l.length := by omega
      subst hke
      have hnl : ¬ ((l.length : Int) < (l.length : Int)) := by omega
      by_cases hk0 : k = 0
      · subst hk0
        have HE : Hid (AddrIs (qB 2 false) l 0) := H.out.end0
        have h01 : (((0 : Nat) : Int) - 1) = -1 := by omega
        rw [h01]
        go_wp2
        go_ret
        exact ⟨0, rfl, HE.out, HB.out⟩
      · obtain ⟨hk, hE⟩ := H.out.end1 (by omega)
        have HE : Hid (AddrIs (qB 2 false) l l[k - 1].addr) := hE
        obtain ⟨m, rfl⟩ : ∃ m, k = m + 1 := ⟨k - 1, by omega⟩
        simp only [Nat.add_sub_cancel] at HE hk
        have h01 : (((m + 1 : Nat) : Int) - 1) = (m : Int) := by omega
        rw [h01]
        have hmI : (m : Int) < (l.length : Int) := by omega
        obtain ⟨b, off, rfl, c0, c1, c2, c3, c4⟩ := Cands.cells (HL.out.below HB.out) m hk
        generalize l[m].addr = A at *
        clear hE
        go_wp2
        go_ret
        exact ⟨A, rfl, HE.out, HB.out⟩
set_option maxHeartbeats 6400000 in
theorem rbest_1true (a : Option Addr) (n cap : Nat) (l : List CandZ) (w : World) (hn : n = l.length) (hL : Lies w a (cellsOf candC l)) (hl : l.length ≤ 1000000) :
    Calls Try.prog 20 #[.slice a n cap, .int .i64 1, .bool true] w (BestEnd w (qB 1 true) l) := by
  subst hn
  have HL : Hid (Lies w a (cellsOf candC l)) := hL
  have HN : Hid (l.length ≤ 1000000) := hl
  clear hL hl
  go_enter Try.func20, Try.ntmps20
  go_wp2_with fail
  go_loopw [7, 8] (fun u t wr => ∃ k i : Nat, i ≤ l.length ∧ k ≤ l.length ∧ u = .int .i64 ((k : Int) - 1) ∧ t = .int .i64 i ∧ Hid (BestAt (qB 1 true) l i k) ∧ Hid (Below w.heap.size w wr)) (fun _ t _ => l.length - (intOf t).toNat)
  case atStart => exact ⟨0, 0, by omega, by omega, rfl, rfl, .inl ⟨rfl, fun j _ h => absurd h (by omega)⟩, Below.refl _ _⟩
  case round =>
    obtain ⟨k, i, hi, hkl, rfl, rfl, H, HB⟩ := hrel
    have hln := HN.out
    by_cases hlt : i < l.length
    · have hki : (i : Int) < (l.length : Int) := by omega
      have hcs : ∀ X, Below wr.heap.size wr X → ∃ b off, a = some ⟨b, off, none⟩ ∧ Hid (∀ j (hj : j < l.length), X.cell? ⟨b, off + j * 5, none⟩ = some (.int .i64 l[j].id) ∧ X.cell? ⟨b, off + j * 5 + 1, none⟩ = some (.int .i64 l[j].addr) ∧ X.cell? ⟨b, off + j * 5 + 2, none⟩ = some (.int .i64 l[j].prio) ∧ X.cell? ⟨b, off + j * 5 + 3, none⟩ = some (.int .i64 l[j].dr) ∧ X.cell? ⟨b, off + j * 5 + 4, none⟩ = some (.int .i64 l[j].bdr)) := by
        intro X hX
        have hlies := (HL.out.below HB.out).below hX
        obtain ⟨b, off, e, -⟩ := Cands.cells hlies i hlt
        refine ⟨b, off, e, fun j hj => ?_⟩
        obtain ⟨b', off', e', h⟩ := Cands.cells hlies j hj
        rw [e] at e'
        cases e'
        exact h
      obtain ⟨b, off, rfl, hc0⟩ := hcs wr (Below.refl _ _)
      have HC : Hid (∀ X, Below wr.heap.size wr X → ∀ j (hj : j < l.length), X.cell? ⟨b, off + j * 5, none⟩ = some (.int .i64 l[j].id) ∧ X.cell? ⟨b, off + j * 5 + 1, none⟩ = some (.int .i64 l[j].addr) ∧ X.cell? ⟨b, off + j * 5 + 2, none⟩ = some (.int .i64 l[j].prio) ∧ X.cell? ⟨b, off + j * 5 + 3, none⟩ = some (.int .i64 l[j].dr) ∧ X.cell? ⟨b, off + j * 5 + 4, none⟩ = some (.int .i64 l[j].bdr)) := by
        intro X hX
        obtain ⟨b', off', e, h⟩ := hcs X hX
        cases e
        exact h.out
      clear hcs hc0
      obtain ⟨c0, c1, c2, c3, c4⟩ := HC.out wr (Below.refl _ _) i hlt
      have HSK : Hid (¬ qB 1 true l[i] = true → BestAt (qB 1 true) l (i + 1) k) := fun h => H.out.skip hlt h
      obtain ⟨x, hx⟩ : ∃ x, l[i] = x := ⟨_, rfl⟩
      by_cases hp : 0 < x.prio
      · obtain ⟨v, hv⟩ : ∃ v, claimZ x = v := ⟨_, rfl⟩
        have CC := rclaims_any x v hv
        have hv3 : v = 0 ∨ v = 1 ∨ v = 2 := by rw [← hv]; unfold claimZ; (repeat' split) <;> simp
        rcases hv3 with rfl | rfl | rfl
        · have hpq : qB 1 true l[i] = true := by rw [hx]; unfold qB; rw [hv]; simp [hp]
          rw [hx] at c0 c1 c2 c3 c4
          clear hv HSK
          by_cases hk0 : k = 0
          · subst hk0
            have HS : Hid (BestAt (qB 1 true) l (i + 1) (i + 1)) := H.out.take0 hlt hpq
            have h01 : (((0 : Nat) : Int) - 1) = -1 := by omega
            rw [h01]
            clear h01 hpq
            go_upto_region 5 with fail
            have HXX : Hid (l[i] = x) := hx
            have keepS : Hid (∀ X, Below wr.heap.size wr X → X.cell? ⟨b, off + i * 5, none⟩ = some (.int .i64 x.id) ∧ X.cell? ⟨b, off + i * 5 + 1, none⟩ = some (.int .i64 x.addr) ∧ X.cell? ⟨b, off + i * 5 + 2, none⟩ = some (.int .i64 x.prio) ∧ X.cell? ⟨b, off + i * 5 + 3, none⟩ = some (.int .i64 x.dr) ∧ X.cell? ⟨b, off + i * 5 + 4, none⟩ = some (.int .i64 x.bdr) ∧ Hid (Below wr.heap.size wr X)) := fun X hX => by
              obtain ⟨e0, e1, e2, e3, e4⟩ := HC.out X hX i hlt
              rw [HXX.out] at e0 e1 e2 e3 e4
              exact ⟨e0, e1, e2, e3, e4, hX⟩
            have hVd : Hid (Below wr.heap.size wr wr.drew) := (Below.refl _ _).drew
            have CCd : ∀ W (h : Below wr.heap.size wr W), Calls Try.prog 23 #[.agg (candA x)] W fun e w' => e = .returned (.int .i64 0) ∧ Hid (Below wr.heap.size wr w') := fun W h => (CC W).mono fun e w' ⟨h1, h2⟩ => ⟨h1, below_more h h2 h.size⟩
            clear CC hx c0 c1 c2 c3 c4
            refine wp_region_held_drew (S := (fun X => X.cell? ⟨b, off + i * 5, none⟩ = some (.int .i64 x.id) ∧ X.cell? ⟨b, off + i * 5 + 1, none⟩ = some (.int .i64 x.addr) ∧ X.cell? ⟨b, off + i * 5 + 2, none⟩ = some (.int .i64 x.prio) ∧ X.cell? ⟨b, off + i * 5 + 3, none⟩ = some (.int .i64 x.dr) ∧ X.cell? ⟨b, off + i * 5 + 4, none⟩ = some (.int .i64 x.bdr) ∧ Hid (Below wr.heap.size wr X))) (by kernel_rfl) ?_ (fun hHeld => ?_)
            · exact keepS.out _ hVd.out
            refine wpAnyH_take (i := 0) (oi := ?_) (v := ?_) ?_ (by kernel_rfl) (by kernel_rfl) (by kernel_rfl) ?_ (Or.inl ⟨?_, ?_⟩) hHeld ?_
            rotate_left 2
            · simp only [List.getElem?_toArray, List.getElem?_cons_zero]; with_reducible rfl
            · exact fun _ _ _ h => h
            · rfl
            · intro wS hSw; (try dsimp only at hSw); go_simp <;> with_reducible rfl
            simp only [put_lit, List.set]
            refine wpAnyH_take (i := 1) (oi := ?_) (v := ?_) ?_ (by kernel_rfl) (by kernel_rfl) (by kernel_rfl) ?_ (Or.inl ⟨?_, ?_⟩) hHeld ?_
            rotate_left 2
            · simp only [List.getElem?_toArray, List.getElem?_cons_zero, List.getElem?_cons_succ]; with_reducible rfl
            · exact fun _ _ _ h => h
            · rfl
            · intro wS hSw; (try dsimp only at hSw); go_simp <;> with_reducible rfl
            simp only [put_lit, List.set]
            refine wpAnyH_take (i := 2) (oi := ?_) (v := ?_) ?_ (by kernel_rfl) (by kernel_rfl) (by kernel_rfl) ?_ (Or.inl ⟨?_, ?_⟩) hHeld ?_
            rotate_left 2
            · simp only [List.getElem?_toArray, List.getElem?_cons_zero, List.getElem?_cons_succ]; with_reducible rfl
            · exact fun _ _ _ h => h
            · rfl
            · intro wS hSw; (try dsimp only at hSw); go_simp <;> with_reducible rfl
            simp only [put_lit, List.set]
            refine wpAnyH_take (i := 3) (oi := ?_) (v := ?_) ?_ (by kernel_rfl) (by kernel_rfl) (by kernel_rfl) ?_ (Or.inl ⟨?_, ?_⟩) hHeld ?_
            rotate_left 2
            · simp only [List.getElem?_toArray, List.getElem?_cons_zero, List.getElem?_cons_succ]; with_reducible rfl
            · exact fun _ _ _ h => h
            · rfl
            · intro wS hSw; (try dsimp only at hSw); go_simp <;> with_reducible rfl
            simp only [put_lit, List.set]
            refine wpAnyH_take (i := 4) (oi := ?_) (v := ?_) ?_ (by kernel_rfl) (by kernel_rfl) (by kernel_rfl) ?_ (Or.inl ⟨?_, ?_⟩) hHeld ?_
            rotate_left 2
            · simp only [List.getElem?_toArray, List.getElem?_cons_zero, List.getElem?_cons_succ]; with_reducible rfl
            · exact fun _ _ _ h => h
            · rfl
            · intro wS hSw; (try dsimp only at hSw); go_simp <;> with_reducible rfl
            simp only [put_lit, List.set]
            refine wpAnyH_take (i := 5) (oi := ?_) (v := ?_) ?_ (by kernel_rfl) (by kernel_rfl) (by kernel_rfl) ?_ (Or.inl ⟨?_, ?_⟩) hHeld ?_
            rotate_left 2
            · simp only [List.getElem?_toArray, List.getElem?_cons_zero, List.getElem?_cons_succ]; with_reducible rfl
            · exact fun _ _ _ h => h
            · rfl
            · intro wS hSw; (try dsimp only at hSw); go_simp <;> with_reducible rfl
            simp only [put_lit, List.set]
            refine wpAnyH_take (i := 6) (oi := ?_) (v := ?_) ?_ (by kernel_rfl) (by kernel_rfl) (by kernel_rfl) ?_ (Or.inl ⟨?_, ?_⟩) hHeld ?_
            rotate_left 2
            · simp only [List.getElem?_toArray, List.getElem?_cons_zero, List.getElem?_cons_succ]; with_reducible rfl
            · exact fun _ _ _ h => h
            · rfl
            · intro wS hSw; (try dsimp only at hSw); go_simp <;> with_reducible rfl
            simp only [put_lit, List.set]
            refine wpAnyH_take (i := 7) (oi := ?_) (v := ?_) ?_ (by kernel_rfl) (by kernel_rfl) (by kernel_rfl) ?_ (Or.inl ⟨?_, ?_⟩) hHeld ?_
            rotate_left 2
            · simp only [List.getElem?_toArray, List.getElem?_cons_zero, List.getElem?_cons_succ]; with_reducible rfl
            · exact fun _ _ _ h => h
            · rfl
            · intro wS hSw; (try dsimp only at hSw); go_simp <;> with_reducible rfl
            simp only [put_lit, List.set]
            refine wpAnyH_take (i := 8) (oi := ?_) (v := ?_) ?_ (by kernel_rfl) (by kernel_rfl) (by kernel_rfl) ?_ (Or.inl ⟨?_, ?_⟩) hHeld ?_
            rotate_left 2
            · simp only [List.getElem?_toArray, List.getElem?_cons_zero, List.getElem?_cons_succ]; with_reducible rfl
            · exact fun _ _ _ h => h
            · rfl
            · intro wS hSw; (try dsimp only at hSw); go_simp <;> with_reducible rfl
            simp only [put_lit, List.set]
            refine wpAnyH_take (i := 9) (oi := ?_) (v := ?_) ?_ (by kernel_rfl) (by kernel_rfl) (by kernel_rfl) ?_ (Or.inl ⟨?_, ?_⟩) hHeld ?_
            rotate_left 2
            · simp only [List.getElem?_toArray, List.getElem?_cons_zero, List.getElem?_cons_succ]; with_reducible rfl
            · exact fun _ _ _ h => h
            · rfl
            · intro wS hSw; (try dsimp only at hSw); go_simp <;> with_reducible rfl
            simp only [put_lit, List.set]
            refine wpAnyH_take (i := 10) (oi := ?_) (v := ?_) ?_ (by kernel_rfl) (by kernel_rfl) (by kernel_rfl) ?_ (Or.inl ⟨?_, ?_⟩) hHeld ?_
            rotate_left 2
            · simp only [List.getElem?_toArray, List.getElem?_cons_zero, List.getElem?_cons_succ]; with_reducible rfl
            · exact fun _ _ _ h => h
            · rfl
            · intro wS hSw; (try dsimp only at hSw); go_simp <;> with_reducible rfl
            simp only [put_lit, List.set]
            refine wpAnyH_take (i := 12) (oi := ?_) (v := ?_) ?_ (by kernel_rfl) (by kernel_rfl) (by kernel_rfl) ?_ (Or.inl ⟨?_, ?_⟩) hHeld ?_
            rotate_left 2
            · simp only [List.getElem?_toArray, List.getElem?_cons_zero, List.getElem?_cons_succ]; with_reducible rfl
            · exact fun _ _ _ h => h
            · rfl
            · intro wS hSw; (try dsimp only at hSw); go_simp <;> with_reducible rfl
            simp only [put_lit, List.set]
            refine wpAnyH_take (i := 14) (oi := ?_) (v := ?_) ?_ (by kernel_rfl) (by kernel_rfl) (by kernel_rfl) ?_ (Or.inl ⟨?_, ?_⟩) hHeld ?_
            rotate_left 2
            · simp only [List.getElem?_toArray, List.getElem?_cons_zero, List.getElem?_cons_succ]; with_reducible rfl
            · exact fun _ _ _ h => h
            · rfl
            · intro wS hSw; (try dsimp only at hSw); go_simp <;> with_reducible rfl
            simp only [put_lit, List.set]
            refine wpAnyH_ready (rs := [11]) (by kernel_rfl) (by simp) ?_
            refine AllReadyH.cons rfl (fun K hK => ?_) AllReadyH.nil
            go_simp
            go_at_call 23
            refine (CCd _ hVd.out).mono ?_
            rintro e w2 ⟨rfl, hb2⟩
            go_wp2_with fail
            refine hK.out _ _ ?_ (fun hHeld2 => ?_)
            · exact keepS.out _ hb2.out
            clear hK K hHeld
            have hHeld := hHeld2
            clear hHeld2
            (try simp only [put_lit, List.set])
            refine wpAnyH_take (i := 13) (oi := ?_) (v := ?_) ?_ (by kernel_rfl) (by kernel_rfl) (by kernel_rfl) ?_ (Or.inl ⟨?_, ?_⟩) hHeld ?_
            rotate_left 2
            · simp only [List.getElem?_toArray, List.getElem?_cons_zero, List.getElem?_cons_succ]; with_reducible rfl
            · exact fun _ _ _ h => h
            · rfl
            · intro wS hSw; (try dsimp only at hSw); go_simp <;> with_reducible rfl
            simp only [put_lit, List.set]
            refine wpAnyH_take (i := 15) (oi := ?_) (v := ?_) ?_ (by kernel_rfl) (by kernel_rfl) (by kernel_rfl) ?_ (Or.inl ⟨?_, ?_⟩) hHeld ?_
            rotate_left 2
            · simp only [List.getElem?_toArray, List.getElem?_cons_zero, List.getElem?_cons_succ]; with_reducible rfl
            · exact fun _ _ _ h => h
            · rfl
            · intro wS hSw; (try dsimp only at hSw); go_simp <;> with_reducible rfl
            simp only [put_lit, List.set]
            refine wpAnyH_take (i := 16) (oi := ?_) (v := ?_) ?_ (by kernel_rfl) (by kernel_rfl) (by kernel_rfl) ?_ (Or.inl ⟨?_, ?_⟩) hHeld ?_
            rotate_left 2
            · simp only [List.getElem?_toArray, List.getElem?_cons_zero, List.getElem?_cons_succ]; with_reducible rfl
            · exact fun _ _ _ h => h
            · rfl
            · intro wS hSw; (try dsimp only at hSw); go_simp <;> with_reducible rfl
            simp only [put_lit, List.set]
            refine wpAnyH_take (i := 17) (oi := ?_) (v := ?_) ?_ (by kernel_rfl) (by kernel_rfl) (by kernel_rfl) ?_ (Or.inl ⟨?_, ?_⟩) hHeld ?_
            rotate_left 2
            · simp only [List.getElem?_toArray, List.getElem?_cons_zero, List.getElem?_cons_succ]; with_reducible rfl
            · exact fun _ _ _ h => h
            · rfl
            · intro wS hSw; (try dsimp only at hSw); go_simp <;> with_reducible rfl
            simp only [put_lit, List.set]
            refine wpAnyH_take (i := 18) (oi := ?_) (v := ?_) ?_ (by kernel_rfl) (by kernel_rfl) (by kernel_rfl) ?_ (Or.inl ⟨?_, ?_⟩) hHeld ?_
            rotate_left 2
            · simp only [List.getElem?_toArray, List.getElem?_cons_zero, List.getElem?_cons_succ]; with_reducible rfl
            · exact fun _ _ _ h => h
            · rfl
            · intro wS hSw; (try dsimp only at hSw); go_simp <;> with_reducible rfl
            simp only [put_lit, List.set]
            refine wpAnyH_take (i := 19) (oi := ?_) (v := ?_) ?_ (by kernel_rfl) (by kernel_rfl) (by kernel_rfl) ?_ (Or.inl ⟨?_, ?_⟩) hHeld ?_
            rotate_left 2
            · simp only [List.getElem?_toArray, List.getElem?_cons_zero, List.getElem?_cons_succ]; with_reducible rfl
            · exact fun _ _ _ h => h
            · rfl
            · intro wS hSw; (try dsimp only at hSw); go_simp <;> with_reducible rfl
            simp only [put_lit, List.set]
            refine wpAnyH_take (i := 20) (oi := ?_) (v := ?_) ?_ (by kernel_rfl) (by kernel_rfl) (by kernel_rfl) ?_ (Or.inl ⟨?_, ?_⟩) hHeld ?_
            rotate_left 2
            · simp only [List.getElem?_toArray, List.getElem?_cons_zero, List.getElem?_cons_succ]; with_reducible rfl
            · exact fun _ _ _ h => h
            · rfl
            · intro wS hSw; (try dsimp only at hSw); go_simp <;> with_reducible rfl
            simp only [put_lit, List.set]
            refine wpAnyH_take (i := 21) (oi := ?_) (v := undef) ?_ (by kernel_rfl) (by kernel_rfl) (by kernel_rfl) ?_ (Or.inr ⟨?_, rfl⟩) hHeld ?_
            rotate_left
            · simp only [List.getElem?_toArray, List.getElem?_cons_zero, List.getElem?_cons_succ]; with_reducible rfl
            · exact fun _ _ _ h => h
            · rfl
            simp only [put_lit, List.set]
            refine wpAnyH_take (i := 22) (oi := ?_) (v := undef) ?_ (by kernel_rfl) (by kernel_rfl) (by kernel_rfl) ?_ (Or.inr ⟨?_, rfl⟩) hHeld ?_
            rotate_left
            · simp only [List.getElem?_toArray, List.getElem?_cons_zero, List.getElem?_cons_succ]; with_reducible rfl
            · exact fun _ _ _ h => h
            · rfl
            simp only [put_lit, List.set]
            refine wpAnyH_take (i := 23) (oi := ?_) (v := undef) ?_ (by kernel_rfl) (by kernel_rfl) (by kernel_rfl) ?_ (Or.inr ⟨?_, rfl⟩) hHeld ?_
            rotate_left
            · simp only [List.getElem?_toArray, List.getElem?_cons_zero, List.getElem?_cons_succ]; with_reducible rfl
            · exact fun _ _ _ h => h
            · rfl
            simp only [put_lit, List.set]
            refine wpAnyH_take (i := 24) (oi := ?_) (v := undef) ?_ (by kernel_rfl) (by kernel_rfl) (by kernel_rfl) ?_ (Or.inr ⟨?_, rfl⟩) hHeld ?_
            rotate_left
            · simp only [List.getElem?_toArray, List.getElem?_cons_zero, List.getElem?_cons_succ]; with_reducible rfl
            · exact fun _ _ _ h => h
            · rfl
            simp only [put_lit, List.set]
            refine wpAnyH_take (i := 25) (oi := ?_) (v := undef) ?_ (by kernel_rfl) (by kernel_rfl) (by kernel_rfl) ?_ (Or.inr ⟨?_, rfl⟩) hHeld ?_
            rotate_left
            · simp only [List.getElem?_toArray, List.getElem?_cons_zero, List.getElem?_cons_succ]; with_reducible rfl
            · exact fun _ _ _ h => h
            · rfl
            simp only [put_lit, List.set]
            refine wpAnyH_take (i := 26) (oi := ?_) (v := undef) ?_ (by kernel_rfl) (by kernel_rfl) (by kernel_rfl) ?_ (Or.inr ⟨?_, rfl⟩) hHeld ?_
            rotate_left
            · simp only [List.getElem?_toArray, List.getElem?_cons_zero, List.getElem?_cons_succ]; with_reducible rfl
            · exact fun _ _ _ h => h
            · rfl
            simp only [put_lit, List.set]
            refine wpAnyH_take (i := 27) (oi := ?_) (v := undef) ?_ (by kernel_rfl) (by kernel_rfl) (by kernel_rfl) ?_ (Or.inr ⟨?_, rfl⟩) hHeld ?_
            rotate_left
            · simp only [List.getElem?_toArray, List.getElem?_cons_zero, List.getElem?_cons_succ]; with_reducible rfl
            · exact fun _ _ _ h => h
            · rfl
            simp only [put_lit, List.set]
            refine wpAnyH_take (i := 28) (oi := ?_) (v := undef) ?_ (by kernel_rfl) (by kernel_rfl) (by kernel_rfl) ?_ (Or.inr ⟨?_, rfl⟩) hHeld ?_
            rotate_left
            · simp only [List.getElem?_toArray, List.getElem?_cons_zero, List.getElem?_cons_succ]; with_reducible rfl
            · exact fun _ _ _ h => h
            · rfl
            simp only [put_lit, List.set]
            refine wpAnyH_take (i := 29) (oi := ?_) (v := undef) ?_ (by kernel_rfl) (by kernel_rfl) (by kernel_rfl) ?_ (Or.inr ⟨?_, rfl⟩) hHeld ?_
            rotate_left
            · simp only [List.getElem?_toArray, List.getElem?_cons_zero, List.getElem?_cons_succ]; with_reducible rfl
            · exact fun _ _ _ h => h
            · rfl
            simp only [put_lit, List.set]
            refine wpAnyH_take (i := 30) (oi := ?_) (v := ?_) ?_ (by kernel_rfl) (by kernel_rfl) (by kernel_rfl) ?_ (Or.inl ⟨?_, ?_⟩) hHeld ?_
            rotate_left 2
            · simp only [List.getElem?_toArray, List.getElem?_cons_zero, List.getElem?_cons_succ]; with_reducible rfl
            · exact fun _ _ _ h => h
            · rfl
            · intro wS hSw; (try dsimp only at hSw); go_simp <;> with_reducible rfl
            simp only [put_lit, List.set]
            refine wpAnyH_take (i := 31) (oi := ?_) (v := ?_) ?_ (by kernel_rfl) (by kernel_rfl) (by kernel_rfl) ?_ (Or.inl ⟨?_, ?_⟩) hHeld ?_
            rotate_left 2
            · simp only [List.getElem?_toArray, List.getElem?_cons_zero, List.getElem?_cons_succ]; with_reducible rfl
            · exact fun _ _ _ h => h
            · rfl
            · intro wS hSw; (try dsimp only at hSw); go_simp <;> with_reducible rfl
            simp only [put_lit, List.set]
            refine wpAnyH_done (by kernel_rfl) ?_ _
            have HBB : Hid (Below w.heap.size w w2) := below_more HB.out hb2.out HB.out.size
            clear hHeld hb2 HC HB
            clear keepS hVd CCd
            go_wp2
            go_roundw
            case rel => exact ⟨i + 1, i + 1, by omega, by omega, by go_num, by go_num, HS.out, HBB.out⟩
            case measure => simp [intOf]; omega
          · obtain ⟨m, rfl⟩ : ∃ m, k = m + 1 := ⟨k - 1, by omega⟩
            have hml : m < l.length := by omega
            have h01 : (((m + 1 : Nat) : Int) - 1) = (m : Int) := by omega
            rw [h01]
            clear h01
            have hmI : (m : Int) < (l.length : Int) := by omega
            have HT1 : Hid (LeC l[m] l[i] → BestAt (qB 1 true) l (i + 1) (i + 1)) := fun h => H.out.take1 hlt hpq (by simpa using hml) (by simpa using h) (by omega)
            have HT2 : Hid (LeC l[i] l[m] → BestAt (qB 1 true) l (i + 1) (m + 1)) := fun h => H.out.keep hlt (by simpa using hml) (by simpa using h) (by omega)
            obtain ⟨y, hy⟩ : ∃ y, l[m] = y := ⟨_, rfl⟩
            rw [hx, hy] at HT1 HT2
            have HYY : Hid (l[m] = y) := hy
            obtain ⟨d0, d1, d2, d3, d4⟩ := HC.out wr (Below.refl _ _) m hml
            rw [hy] at d0 d1 d2 d3 d4
            have HTQ : Hid (∀ q, bettB x y = q → BestAt (qB 1 true) l (i + 1) (if q then i + 1 else m + 1)) := fun q hq => by
              cases q
              · exact HT2.out (bett_no hq)
              · exact HT1.out (bett_yes hq)
            have CB := rbetter_any x y
            obtain ⟨q, hq⟩ : ∃ q, bettB x y = q := ⟨_, rfl⟩
            have HS : Hid (BestAt (qB 1 true) l (i + 1) (if q then i + 1 else m + 1)) := HTQ.out q hq
            rw [hq] at CB
            clear hpq HT1 HT2 HTQ hq
            go_upto_region 5 with fail
            have HXX : Hid (l[i] = x) := hx
            have keepS : Hid (∀ X, Below wr.heap.size wr X → X.cell? ⟨b, off + i * 5, none⟩ = some (.int .i64 x.id) ∧ X.cell? ⟨b, off + i * 5 + 1, none⟩ = some (.int .i64 x.addr) ∧ X.cell? ⟨b, off + i * 5 + 2, none⟩ = some (.int .i64 x.prio) ∧ X.cell? ⟨b, off + i * 5 + 3, none⟩ = some (.int .i64 x.dr) ∧ X.cell? ⟨b, off + i * 5 + 4, none⟩ = some (.int .i64 x.bdr) ∧ X.cell? ⟨b, off + m * 5, none⟩ = some (.int .i64 y.id) ∧ X.cell? ⟨b, off + m * 5 + 1, none⟩ = some (.int .i64 y.addr) ∧ X.cell? ⟨b, off + m * 5 + 2, none⟩ = some (.int .i64 y.prio) ∧ X.cell? ⟨b, off + m * 5 + 3, none⟩ = some (.int .i64 y.dr) ∧ X.cell? ⟨b, off + m * 5 + 4, none⟩ = some (.int .i64 y.bdr) ∧ Hid (Below wr.heap.size wr X)) := fun X hX => by
              obtain ⟨e0, e1, e2, e3, e4⟩ := HC.out X hX i hlt
              rw [HXX.out] at e0 e1 e2 e3 e4
              obtain ⟨f0, f1, f2, f3, f4⟩ := HC.out X hX m hml
              rw [HYY.out] at f0 f1 f2 f3 f4
              exact ⟨e0, e1, e2, e3, e4, f0, f1, f2, f3, f4, hX⟩
            have hVd : Hid (Below wr.heap.size wr wr.drew) := (Below.refl _ _).drew
            have CCd : ∀ W (h : Below wr.heap.size wr W), Calls Try.prog 23 #[.agg (candA x)] W fun e w' => e = .returned (.int .i64 0) ∧ Hid (Below wr.heap.size wr w') := fun W h => (CC W).mono fun e w' ⟨h1, h2⟩ => ⟨h1, below_more h h2 h.size⟩
            have CBd : ∀ W (h : Below wr.heap.size wr W), Calls Try.prog 24 #[.agg (candA x), .agg (candA y)] W fun e w' => e = .returned (.bool q) ∧ Hid (Below wr.heap.size wr w') := fun W h => (CB W).mono fun e w' ⟨h1, h2⟩ => ⟨h1, below_more h h2 h.size⟩
            clear CC CB hx hy c0 c1 c2 c3 c4 d0 d1 d2 d3 d4
            refine wp_region_held_drew (S := (fun X => X.cell? ⟨b, off + i * 5, none⟩ = some (.int .i64 x.id) ∧ X.cell? ⟨b, off + i * 5 + 1, none⟩ = some (.int .i64 x.addr) ∧ X.cell? ⟨b, off + i * 5 + 2, none⟩ = some (.int .i64 x.prio) ∧ X.cell? ⟨b, off + i * 5 + 3, none⟩ = some (.int .i64 x.dr) ∧ X.cell? ⟨b, off + i * 5 + 4, none⟩ = some (.int .i64 x.bdr) ∧ X.cell? ⟨b, off + m * 5, none⟩ = some (.int .i64 y.id) ∧ X.cell? ⟨b, off + m * 5 + 1, none⟩ = some (.int .i64 y.addr) ∧ X.cell? ⟨b, off + m * 5 + 2, none⟩ = some (.int .i64 y.prio) ∧ X.cell? ⟨b, off + m * 5 + 3, none⟩ = some (.int .i64 y.dr) ∧ X.cell? ⟨b, off + m * 5 + 4, none⟩ = some (.int .i64 y.bdr) ∧ Hid (Below wr.heap.size wr X))) (by kernel_rfl) ?_ (fun hHeld => ?_)
            · exact keepS.out _ hVd.out
            refine wpAnyH_take (i := 0) (oi := ?_) (v := ?_) ?_ (by kernel_rfl) (by kernel_rfl) (by kernel_rfl) ?_ (Or.inl ⟨?_, ?_⟩) hHeld ?_
            rotate_left 2
            · simp only [List.getElem?_toArray, List.getElem?_cons_zero]; with_reducible rfl
            · exact fun _ _ _ h => h
            · rfl
            · intro wS hSw; (try dsimp only at hSw); go_simp <;> with_reducible rfl
            simp only [put_lit, List.set]
            refine wpAnyH_take (i := 1) (oi := ?_) (v := ?_) ?_ (by kernel_rfl) (by kernel_rfl) (by kernel_rfl) ?_ (Or.inl ⟨?_, ?_⟩) hHeld ?_
            rotate_left 2
            · simp only [List.getElem?_toArray, List.getElem?_cons_zero, List.getElem?_cons_succ]; with_reducible rfl
            · exact fun _ _ _ h => h
            · rfl
            · intro wS hSw; (try dsimp only at hSw); go_simp <;> with_reducible rfl
            simp only [put_lit, List.set]
            refine wpAnyH_take (i := 2) (oi := ?_) (v := ?_) ?_ (by kernel_rfl) (by kernel_rfl) (by kernel_rfl) ?_ (Or.inl ⟨?_, ?_⟩) hHeld ?_
            rotate_left 2
            · simp only [List.getElem?_toArray, List.getElem?_cons_zero, List.getElem?_cons_succ]; with_reducible rfl
            · exact fun _ _ _ h => h
            · rfl
            · intro wS hSw; (try dsimp only at hSw); go_simp <;> with_reducible rfl
            simp only [put_lit, List.set]
            refine wpAnyH_take (i := 3) (oi := ?_) (v := ?_) ?_ (by kernel_rfl) (by kernel_rfl) (by kernel_rfl) ?_ (Or.inl ⟨?_, ?_⟩) hHeld ?_
            rotate_left 2
            · simp only [List.getElem?_toArray, List.getElem?_cons_zero, List.getElem?_cons_succ]; with_reducible rfl
            · exact fun _ _ _ h => h
            · rfl
            · intro wS hSw; (try dsimp only at hSw); go_simp <;> with_reducible rfl
            simp only [put_lit, List.set]
            refine wpAnyH_take (i := 4) (oi := ?_) (v := ?_) ?_ (by kernel_rfl) (by kernel_rfl) (by kernel_rfl) ?_ (Or.inl ⟨?_, ?_⟩) hHeld ?_
            rotate_left 2
            · simp only [List.getElem?_toArray, List.getElem?_cons_zero, List.getElem?_cons_succ]; with_reducible rfl
            · exact fun _ _ _ h => h
            · rfl
            · intro wS hSw; (try dsimp only at hSw); go_simp <;> with_reducible rfl
            simp only [put_lit, List.set]
            refine wpAnyH_take (i := 5) (oi := ?_) (v := ?_) ?_ (by kernel_rfl) (by kernel_rfl) (by kernel_rfl) ?_ (Or.inl ⟨?_, ?_⟩) hHeld ?_
            rotate_left 2
            · simp only [List.getElem?_toArray, List.getElem?_cons_zero, List.getElem?_cons_succ]; with_reducible rfl
            · exact fun _ _ _ h => h
            · rfl
            · intro wS hSw; (try dsimp only at hSw); go_simp <;> with_reducible rfl
            simp only [put_lit, List.set]
            refine wpAnyH_take (i := 6) (oi := ?_) (v := ?_) ?_ (by kernel_rfl) (by kernel_rfl) (by kernel_rfl) ?_ (Or.inl ⟨?_, ?_⟩) hHeld ?_
            rotate_left 2
            · simp only [List.getElem?_toArray, List.getElem?_cons_zero, List.getElem?_cons_succ]; with_reducible rfl
            · exact fun _ _ _ h => h
            · rfl
            · intro wS hSw; (try dsimp only at hSw); go_simp <;> with_reducible rfl
            simp only [put_lit, List.set]
            refine wpAnyH_take (i := 7) (oi := ?_) (v := ?_) ?_ (by kernel_rfl) (by kernel_rfl) (by kernel_rfl) ?_ (Or.inl ⟨?_, ?_⟩) hHeld ?_
            rotate_left 2
            · simp only [List.getElem?_toArray, List.getElem?_cons_zero, List.getElem?_cons_succ]; with_reducible rfl
            · exact fun _ _ _ h => h
            · rfl
            · intro wS hSw; (try dsimp only at hSw); go_simp <;> with_reducible rfl
            simp only [put_lit, List.set]
            refine wpAnyH_take (i := 8) (oi := ?_) (v := ?_) ?_ (by kernel_rfl) (by kernel_rfl) (by kernel_rfl) ?_ (Or.inl ⟨?_, ?_⟩) hHeld ?_
            rotate_left 2
            · simp only [List.getElem?_toArray, List.getElem?_cons_zero, List.getElem?_cons_succ]; with_reducible rfl
            · exact fun _ _ _ h => h
            · rfl
            · intro wS hSw; (try dsimp only at hSw); go_simp <;> with_reducible rfl
            simp only [put_lit, List.set]
            refine wpAnyH_take (i := 9) (oi := ?_) (v := ?_) ?_ (by kernel_rfl) (by kernel_rfl) (by kernel_rfl) ?_ (Or.inl ⟨?_, ?_⟩) hHeld ?_
            rotate_left 2
            · simp only [List.getElem?_toArray, List.getElem?_cons_zero, List.getElem?_cons_succ]; with_reducible rfl
            · exact fun _ _ _ h => h
            · rfl
            · intro wS hSw; (try dsimp only at hSw); go_simp <;> with_reducible rfl
            simp only [put_lit, List.set]
            refine wpAnyH_take (i := 10) (oi := ?_) (v := ?_) ?_ (by kernel_rfl) (by kernel_rfl) (by kernel_rfl) ?_ (Or.inl ⟨?_, ?_⟩) hHeld ?_
            rotate_left 2
            · simp only [List.getElem?_toArray, List.getElem?_cons_zero, List.getElem?_cons_succ]; with_reducible rfl
            · exact fun _ _ _ h => h
            · rfl
            · intro wS hSw; (try dsimp only at hSw); go_simp <;> with_reducible rfl
            simp only [put_lit, List.set]
            refine wpAnyH_take (i := 12) (oi := ?_) (v := ?_) ?_ (by kernel_rfl) (by kernel_rfl) (by kernel_rfl) ?_ (Or.inl ⟨?_, ?_⟩) hHeld ?_
            rotate_left 2
            · simp only [List.getElem?_toArray, List.getElem?_cons_zero, List.getElem?_cons_succ]; with_reducible rfl
            · exact fun _ _ _ h => h
            · rfl
            · intro wS hSw; (try dsimp only at hSw); go_simp <;> with_reducible rfl
            simp only [put_lit, List.set]
            refine wpAnyH_take (i := 14) (oi := ?_) (v := ?_) ?_ (by kernel_rfl) (by kernel_rfl) (by kernel_rfl) ?_ (Or.inl ⟨?_, ?_⟩) hHeld ?_
            rotate_left 2
            · simp only [List.getElem?_toArray, List.getElem?_cons_zero, List.getElem?_cons_succ]; with_reducible rfl
            · exact fun _ _ _ h => h
            · rfl
            · intro wS hSw; (try dsimp only at hSw); go_simp <;> with_reducible rfl
            simp only [put_lit, List.set]
            refine wpAnyH_ready (rs := [11]) (by kernel_rfl) (by simp) ?_
            refine AllReadyH.cons rfl (fun K hK => ?_) AllReadyH.nil
            go_simp
            go_at_call 23
            refine (CCd _ hVd.out).mono ?_
            rintro e w2 ⟨rfl, hb2⟩
            go_wp2_with fail
            refine hK.out _ _ ?_ (fun hHeld2 => ?_)
            · exact keepS.out _ hb2.out
            clear hK K hHeld
            have hHeld := hHeld2
            clear hHeld2
            (try simp only [put_lit, List.set])
            refine wpAnyH_take (i := 13) (oi := ?_) (v := ?_) ?_ (by kernel_rfl) (by kernel_rfl) (by kernel_rfl) ?_ (Or.inl ⟨?_, ?_⟩) hHeld ?_
            rotate_left 2
            · simp only [List.getElem?_toArray, List.getElem?_cons_zero, List.getElem?_cons_succ]; with_reducible rfl
            · exact fun _ _ _ h => h
            · rfl
            · intro wS hSw; (try dsimp only at hSw); go_simp <;> with_reducible rfl
            simp only [put_lit, List.set]
            refine wpAnyH_take (i := 15) (oi := ?_) (v := ?_) ?_ (by kernel_rfl) (by kernel_rfl) (by kernel_rfl) ?_ (Or.inl ⟨?_, ?_⟩) hHeld ?_
            rotate_left 2
            · simp only [List.getElem?_toArray, List.getElem?_cons_zero, List.getElem?_cons_succ]; with_reducible rfl
            · exact fun _ _ _ h => h
            · rfl
            · intro wS hSw; (try dsimp only at hSw); go_simp <;> with_reducible rfl
            simp only [put_lit, List.set]
            refine wpAnyH_take (i := 16) (oi := ?_) (v := ?_) ?_ (by kernel_rfl) (by kernel_rfl) (by kernel_rfl) ?_ (Or.inl ⟨?_, ?_⟩) hHeld ?_
            rotate_left 2
            · simp only [List.getElem?_toArray, List.getElem?_cons_zero, List.getElem?_cons_succ]; with_reducible rfl
            · exact fun _ _ _ h => h
            · rfl
            · intro wS hSw; (try dsimp only at hSw); go_simp <;> with_reducible rfl
            simp only [put_lit, List.set]
            refine wpAnyH_take (i := 17) (oi := ?_) (v := ?_) ?_ (by kernel_rfl) (by kernel_rfl) (by kernel_rfl) ?_ (Or.inl ⟨?_, ?_⟩) hHeld ?_
            rotate_left 2
            · simp only [List.getElem?_toArray, List.getElem?_cons_zero, List.getElem?_cons_succ]; with_reducible rfl
            · exact fun _ _ _ h => h
            · rfl
            · intro wS hSw; (try dsimp only at hSw); go_simp <;> with_reducible rfl
            simp only [put_lit, List.set]
            refine wpAnyH_take (i := 18) (oi := ?_) (v := ?_) ?_ (by kernel_rfl) (by kernel_rfl) (by kernel_rfl) ?_ (Or.inl ⟨?_, ?_⟩) hHeld ?_
            rotate_left 2
            · simp only [List.getElem?_toArray, List.getElem?_cons_zero, List.getElem?_cons_succ]; with_reducible rfl
            · exact fun _ _ _ h => h
            · rfl
            · intro wS hSw; (try dsimp only at hSw); go_simp <;> with_reducible rfl
            simp only [put_lit, List.set]
            refine wpAnyH_take (i := 19) (oi := ?_) (v := ?_) ?_ (by kernel_rfl) (by kernel_rfl) (by kernel_rfl) ?_ (Or.inl ⟨?_, ?_⟩) hHeld ?_
            rotate_left 2
            · simp only [List.getElem?_toArray, List.getElem?_cons_zero, List.getElem?_cons_succ]; with_reducible rfl
            · exact fun _ _ _ h => h
            · rfl
            · intro wS hSw; (try dsimp only at hSw); go_simp <;> with_reducible rfl
            simp only [put_lit, List.set]
            refine wpAnyH_take (i := 20) (oi := ?_) (v := ?_) ?_ (by kernel_rfl) (by kernel_rfl) (by kernel_rfl) ?_ (Or.inl ⟨?_, ?_⟩) hHeld ?_
            rotate_left 2
            · simp only [List.getElem?_toArray, List.getElem?_cons_zero, List.getElem?_cons_succ]; with_reducible rfl
            · exact fun _ _ _ h => h
            · rfl
            · intro wS hSw; (try dsimp only at hSw); go_simp <;> with_reducible rfl
            simp only [put_lit, List.set]
            refine wpAnyH_take (i := 21) (oi := ?_) (v := ?_) ?_ (by kernel_rfl) (by kernel_rfl) (by kernel_rfl) ?_ (Or.inl ⟨?_, ?_⟩) hHeld ?_
            rotate_left 2
            · simp only [List.getElem?_toArray, List.getElem?_cons_zero, List.getElem?_cons_succ]; with_reducible rfl
            · exact fun _ _ _ h => h
            · rfl
            · intro wS hSw; (try dsimp only at hSw); go_simp <;> with_reducible rfl
            simp only [put_lit, List.set]
            refine wpAnyH_take (i := 22) (oi := ?_) (v := ?_) ?_ (by kernel_rfl) (by kernel_rfl) (by kernel_rfl) ?_ (Or.inl ⟨?_, ?_⟩) hHeld ?_
            rotate_left 2
            · simp only [List.getElem?_toArray, List.getElem?_cons_zero, List.getElem?_cons_succ]; with_reducible rfl
            · exact fun _ _ _ h => h
            · rfl
            · intro wS hSw; (try dsimp only at hSw); go_simp <;> with_reducible rfl
            simp only [put_lit, List.set]
            refine wpAnyH_take (i := 23) (oi := ?_) (v := ?_) ?_ (by kernel_rfl) (by kernel_rfl) (by kernel_rfl) ?_ (Or.inl ⟨?_, ?_⟩) hHeld ?_
            rotate_left 2
            · simp only [List.getElem?_toArray, List.getElem?_cons_zero, List.getElem?_cons_succ]; with_reducible rfl
            · exact fun _ _ _ h => h
            · rfl
            · intro wS hSw; (try dsimp only at hSw); go_simp <;> with_reducible rfl
            simp only [put_lit, List.set]
            refine wpAnyH_take (i := 24) (oi := ?_) (v := ?_) ?_ (by kernel_rfl) (by kernel_rfl) (by kernel_rfl) ?_ (Or.inl ⟨?_, ?_⟩) hHeld ?_
            rotate_left 2
            · simp only [List.getElem?_toArray, List.getElem?_cons_zero, List.getElem?_cons_succ]; with_reducible rfl
            · exact fun _ _ _ h => h
            · rfl
            · intro wS hSw; (try dsimp only at hSw); go_simp <;> with_reducible rfl
            simp only [put_lit, List.set]
            refine wpAnyH_take (i := 25) (oi := ?_) (v := ?_) ?_ (by kernel_rfl) (by kernel_rfl) (by kernel_rfl) ?_ (Or.inl ⟨?_, ?_⟩) hHeld ?_
            rotate_left 2
            · simp only [List.getElem?_toArray, List.getElem?_cons_zero, List.getElem?_cons_succ]; with_reducible rfl
            · exact fun _ _ _ h => h
            · rfl
            · intro wS hSw; (try dsimp only at hSw); go_simp <;> with_reducible rfl
            simp only [put_lit, List.set]
            refine wpAnyH_take (i := 26) (oi := ?_) (v := ?_) ?_ (by kernel_rfl) (by kernel_rfl) (by kernel_rfl) ?_ (Or.inl ⟨?_, ?_⟩) hHeld ?_
            rotate_left 2
            · simp only [List.getElem?_toArray, List.getElem?_cons_zero, List.getElem?_cons_succ]; with_reducible rfl
            · exact fun _ _ _ h => h
            · rfl
            · intro wS hSw; (try dsimp only at hSw); go_simp <;> with_reducible rfl
            simp only [put_lit, List.set]
            refine wpAnyH_take (i := 27) (oi := ?_) (v := ?_) ?_ (by kernel_rfl) (by kernel_rfl) (by kernel_rfl) ?_ (Or.inl ⟨?_, ?_⟩) hHeld ?_
            rotate_left 2
            · simp only [List.getElem?_toArray, List.getElem?_cons_zero, List.getElem?_cons_succ]; with_reducible rfl
            · exact fun _ _ _ h => h
            · rfl
            · intro wS hSw; (try dsimp only at hSw); go_simp <;> with_reducible rfl
            simp only [put_lit, List.set]
            refine wpAnyH_take (i := 28) (oi := ?_) (v := ?_) ?_ (by kernel_rfl) (by kernel_rfl) (by kernel_rfl) ?_ (Or.inl ⟨?_, ?_⟩) hHeld ?_
            rotate_left 2
            · simp only [List.getElem?_toArray, List.getElem?_cons_zero, List.getElem?_cons_succ]; with_reducible rfl
            · exact fun _ _ _ h => h
            · rfl
            · intro wS hSw; (try dsimp only at hSw); go_simp <;> with_reducible rfl
            simp only [put_lit, List.set]
            refine wpAnyH_ready (rs := [29]) (by kernel_rfl) (by simp) ?_
            refine AllReadyH.cons rfl (fun K hK => ?_) AllReadyH.nil
            go_simp
            go_at_call 24
            refine (CBd _ hb2.out).mono ?_
            rintro e w3 ⟨rfl, hb3⟩
            go_wp2_with fail
            refine hK.out _ _ ?_ (fun hHeld2 => ?_)
            · exact keepS.out _ hb3.out
            clear hK K hHeld
            have hHeld := hHeld2
            clear hHeld2
            (try simp only [put_lit, List.set])
            refine wpAnyH_take (i := 30) (oi := ?_) (v := ?_) ?_ (by kernel_rfl) (by kernel_rfl) (by kernel_rfl) ?_ (Or.inl ⟨?_, ?_⟩) hHeld ?_
            rotate_left 2
            · simp only [List.getElem?_toArray, List.getElem?_cons_zero, List.getElem?_cons_succ]; with_reducible rfl
            · exact fun _ _ _ h => h
            · rfl
            · intro wS hSw; (try dsimp only at hSw); go_simp <;> with_reducible rfl
            simp only [put_lit, List.set]
            refine wpAnyH_take (i := 31) (oi := ?_) (v := ?_) ?_ (by kernel_rfl) (by kernel_rfl) (by kernel_rfl) ?_ (Or.inl ⟨?_, ?_⟩) hHeld ?_
            rotate_left 2
            · simp only [List.getElem?_toArray, List.getElem?_cons_zero, List.getElem?_cons_succ]; with_reducible rfl
            · exact fun _ _ _ h => h
            · rfl
            · intro wS hSw; (try dsimp only at hSw); go_simp <;> with_reducible rfl
            simp only [put_lit, List.set]
            refine wpAnyH_done (by kernel_rfl) ?_ _
            have HBB : Hid (Below w.heap.size w w3) := below_more HB.out hb3.out HB.out.size
            clear hHeld hb2 hb3 HC HB CBd
            have hm0 : ¬ ((m : Int) < 0) := by omega
            cases q
            · clear keepS hVd CCd
              go_wp2
              all_goals first | (exfalso; simp_all; done) | (exfalso; rename_i hh; rcases hh with hh | hh <;> first | exact absurd hh hm0 | (cases hh; done)) | skip
              go_roundw
              case rel => exact ⟨m + 1, i + 1, by omega, by omega, (congrArg (Value.int IntKind.i64) (show (m : Int) = ((m + 1 : Nat) : Int) - 1 from by omega)), by go_num, HS.out, HBB.out⟩
              case measure => simp [intOf]; omega
            · clear keepS hVd CCd
              go_wp2
              all_goals first | (exfalso; simp_all; done) | (exfalso; rename_i hh; rcases hh with hh | hh <;> first | exact absurd hh hm0 | (cases hh; done)) | skip
              go_roundw
              case rel => exact ⟨i + 1, i + 1, by omega, by omega, by go_num, by go_num, HS.out, HBB.out⟩
              case measure => simp [intOf]; omega
        · have HS : Hid (BestAt (qB 1 true) l (i + 1) k) := HSK.out (by rw [hx]; unfold qB; rw [hv]; simp)
          rw [hx] at c0 c1 c2 c3 c4
          clear hv HSK
          go_upto_region 5 with fail
          have HXX : Hid (l[i] = x) := hx
          have keepS : Hid (∀ X, Below wr.heap.size wr X → X.cell? ⟨b, off + i * 5, none⟩ = some (.int .i64 x.id) ∧ X.cell? ⟨b, off + i * 5 + 1, none⟩ = some (.int .i64 x.addr) ∧ X.cell? ⟨b, off + i * 5 + 2, none⟩ = some (.int .i64 x.prio) ∧ X.cell? ⟨b, off + i * 5 + 3, none⟩ = some (.int .i64 x.dr) ∧ X.cell? ⟨b, off + i * 5 + 4, none⟩ = some (.int .i64 x.bdr) ∧ Hid (Below wr.heap.size wr X)) := fun X hX => by
            obtain ⟨e0, e1, e2, e3, e4⟩ := HC.out X hX i hlt
            rw [HXX.out] at e0 e1 e2 e3 e4
            exact ⟨e0, e1, e2, e3, e4, hX⟩
          have hVd : Hid (Below wr.heap.size wr wr.drew) := (Below.refl _ _).drew
          have CCd : ∀ W (h : Below wr.heap.size wr W), Calls Try.prog 23 #[.agg (candA x)] W fun e w' => e = .returned (.int .i64 1) ∧ Hid (Below wr.heap.size wr w') := fun W h => (CC W).mono fun e w' ⟨h1, h2⟩ => ⟨h1, below_more h h2 h.size⟩
          clear CC hx c0 c1 c2 c3 c4
          refine wp_region_held_drew (S := (fun X => X.cell? ⟨b, off + i * 5, none⟩ = some (.int .i64 x.id) ∧ X.cell? ⟨b, off + i * 5 + 1, none⟩ = some (.int .i64 x.addr) ∧ X.cell? ⟨b, off + i * 5 + 2, none⟩ = some (.int .i64 x.prio) ∧ X.cell? ⟨b, off + i * 5 + 3, none⟩ = some (.int .i64 x.dr) ∧ X.cell? ⟨b, off + i * 5 + 4, none⟩ = some (.int .i64 x.bdr) ∧ Hid (Below wr.heap.size wr X))) (by kernel_rfl) ?_ (fun hHeld => ?_)
          · exact keepS.out _ hVd.out
          refine wpAnyH_take (i := 0) (oi := ?_) (v := ?_) ?_ (by kernel_rfl) (by kernel_rfl) (by kernel_rfl) ?_ (Or.inl ⟨?_, ?_⟩) hHeld ?_
          rotate_left 2
          · simp only [List.getElem?_toArray, List.getElem?_cons_zero]; with_reducible rfl
          · exact fun _ _ _ h => h
          · rfl
          · intro wS hSw; (try dsimp only at hSw); go_simp <;> with_reducible rfl
          simp only [put_lit, List.set]
          refine wpAnyH_take (i := 1) (oi := ?_) (v := ?_) ?_ (by kernel_rfl) (by kernel_rfl) (by kernel_rfl) ?_ (Or.inl ⟨?_, ?_⟩) hHeld ?_
          rotate_left 2
          · simp only [List.getElem?_toArray, List.getElem?_cons_zero, List.getElem?_cons_succ]; with_reducible rfl
          · exact fun _ _ _ h => h
          · rfl
          · intro wS hSw; (try dsimp only at hSw); go_simp <;> with_reducible rfl
          simp only [put_lit, List.set]
          refine wpAnyH_take (i := 2) (oi := ?_) (v := ?_) ?_ (by kernel_rfl) (by kernel_rfl) (by kernel_rfl) ?_ (Or.inl ⟨?_, ?_⟩) hHeld ?_
          rotate_left 2
          · simp only [List.getElem?_toArray, List.getElem?_cons_zero, List.getElem?_cons_succ]; with_reducible rfl
          · exact fun _ _ _ h => h
          · rfl
          · intro wS hSw; (try dsimp only at hSw); go_simp <;> with_reducible rfl
          simp only [put_lit, List.set]
          refine wpAnyH_take (i := 3) (oi := ?_) (v := ?_) ?_ (by kernel_rfl) (by kernel_rfl) (by kernel_rfl) ?_ (Or.inl ⟨?_, ?_⟩) hHeld ?_
          rotate_left 2
          · simp only [List.getElem?_toArray, List.getElem?_cons_zero, List.getElem?_cons_succ]; with_reducible rfl
          · exact fun _ _ _ h => h
          · rfl
          · intro wS hSw; (try dsimp only at hSw); go_simp <;> with_reducible rfl
          simp only [put_lit, List.set]
          refine wpAnyH_take (i := 4) (oi := ?_) (v := ?_) ?_ (by kernel_rfl) (by kernel_rfl) (by kernel_rfl) ?_ (Or.inl ⟨?_, ?_⟩) hHeld ?_
          rotate_left 2
          · simp only [List.getElem?_toArray, List.getElem?_cons_zero, List.getElem?_cons_succ]; with_reducible rfl
          · exact fun _ _ _ h => h
          · rfl
          · intro wS hSw; (try dsimp only at hSw); go_simp <;> with_reducible rfl
          simp only [put_lit, List.set]
          refine wpAnyH_take (i := 5) (oi := ?_) (v := ?_) ?_ (by kernel_rfl) (by kernel_rfl) (by kernel_rfl) ?_ (Or.inl ⟨?_, ?_⟩) hHeld ?_
          rotate_left 2
          · simp only [List.getElem?_toArray, List.getElem?_cons_zero, List.getElem?_cons_succ]; with_reducible rfl
          · exact fun _ _ _ h => h
          · rfl
          · intro wS hSw; (try dsimp only at hSw); go_simp <;> with_reducible rfl
          simp only [put_lit, List.set]
          refine wpAnyH_take (i := 6) (oi := ?_) (v := ?_) ?_ (by kernel_rfl) (by kernel_rfl) (by kernel_rfl) ?_ (Or.inl ⟨?_, ?_⟩) hHeld ?_
          rotate_left 2
          · simp only [List.getElem?_toArray, List.getElem?_cons_zero, List.getElem?_cons_succ]; with_reducible rfl
          · exact fun _ _ _ h => h
          · rfl
          · intro wS hSw; (try dsimp only at hSw); go_simp <;> with_reducible rfl
          simp only [put_lit, List.set]
          refine wpAnyH_take (i := 7) (oi := ?_) (v := ?_) ?_ (by kernel_rfl) (by kernel_rfl) (by kernel_rfl) ?_ (Or.inl ⟨?_, ?_⟩) hHeld ?_
          rotate_left 2
          · simp only [List.getElem?_toArray, List.getElem?_cons_zero, List.getElem?_cons_succ]; with_reducible rfl
          · exact fun _ _ _ h => h
          · rfl
          · intro wS hSw; (try dsimp only at hSw); go_simp <;> with_reducible rfl
          simp only [put_lit, List.set]
          refine wpAnyH_take (i := 8) (oi := ?_) (v := ?_) ?_ (by kernel_rfl) (by kernel_rfl) (by kernel_rfl) ?_ (Or.inl ⟨?_, ?_⟩) hHeld ?_
          rotate_left 2
          · simp only [List.getElem?_toArray, List.getElem?_cons_zero, List.getElem?_cons_succ]; with_reducible rfl
          · exact fun _ _ _ h => h
          · rfl
          · intro wS hSw; (try dsimp only at hSw); go_simp <;> with_reducible rfl
          simp only [put_lit, List.set]
          refine wpAnyH_take (i := 9) (oi := ?_) (v := ?_) ?_ (by kernel_rfl) (by kernel_rfl) (by kernel_rfl) ?_ (Or.inl ⟨?_, ?_⟩) hHeld ?_
          rotate_left 2
          · simp only [List.getElem?_toArray, List.getElem?_cons_zero, List.getElem?_cons_succ]; with_reducible rfl
          · exact fun _ _ _ h => h
          · rfl
          · intro wS hSw; (try dsimp only at hSw); go_simp <;> with_reducible rfl
          simp only [put_lit, List.set]
          refine wpAnyH_take (i := 10) (oi := ?_) (v := ?_) ?_ (by kernel_rfl) (by kernel_rfl) (by kernel_rfl) ?_ (Or.inl ⟨?_, ?_⟩) hHeld ?_
          rotate_left 2
          · simp only [List.getElem?_toArray, List.getElem?_cons_zero, List.getElem?_cons_succ]; with_reducible rfl
          · exact fun _ _ _ h => h
          · rfl
          · intro wS hSw; (try dsimp only at hSw); go_simp <;> with_reducible rfl
          simp only [put_lit, List.set]
          refine wpAnyH_take (i := 12) (oi := ?_) (v := ?_) ?_ (by kernel_rfl) (by kernel_rfl) (by kernel_rfl) ?_ (Or.inl ⟨?_, ?_⟩) hHeld ?_
          rotate_left 2
          · simp only [List.getElem?_toArray, List.getElem?_cons_zero, List.getElem?_cons_succ]; with_reducible rfl
          · exact fun _ _ _ h => h
          · rfl
          · intro wS hSw; (try dsimp only at hSw); go_simp <;> with_reducible rfl
          simp only [put_lit, List.set]
          refine wpAnyH_take (i := 14) (oi := ?_) (v := ?_) ?_ (by kernel_rfl) (by kernel_rfl) (by kernel_rfl) ?_ (Or.inl ⟨?_, ?_⟩) hHeld ?_
          rotate_left 2
          · simp only [List.getElem?_toArray, List.getElem?_cons_zero, List.getElem?_cons_succ]; with_reducible rfl
          · exact fun _ _ _ h => h
          · rfl
          · intro wS hSw; (try dsimp only at hSw); go_simp <;> with_reducible rfl
          simp only [put_lit, List.set]
          refine wpAnyH_ready (rs := [11]) (by kernel_rfl) (by simp) ?_
          refine AllReadyH.cons rfl (fun K hK => ?_) AllReadyH.nil
          go_simp
          go_at_call 23
          refine (CCd _ hVd.out).mono ?_
          rintro e w2 ⟨rfl, hb2⟩
          go_wp2_with fail
          refine hK.out _ _ ?_ (fun hHeld2 => ?_)
          · exact keepS.out _ hb2.out
          clear hK K hHeld
          have hHeld := hHeld2
          clear hHeld2
          (try simp only [put_lit, List.set])
          refine wpAnyH_take (i := 13) (oi := ?_) (v := ?_) ?_ (by kernel_rfl) (by kernel_rfl) (by kernel_rfl) ?_ (Or.inl ⟨?_, ?_⟩) hHeld ?_
          rotate_left 2
          · simp only [List.getElem?_toArray, List.getElem?_cons_zero, List.getElem?_cons_succ]; with_reducible rfl
          · exact fun _ _ _ h => h
          · rfl
          · intro wS hSw; (try dsimp only at hSw); go_simp <;> with_reducible rfl
          simp only [put_lit, List.set]
          refine wpAnyH_take (i := 15) (oi := ?_) (v := ?_) ?_ (by kernel_rfl) (by kernel_rfl) (by kernel_rfl) ?_ (Or.inl ⟨?_, ?_⟩) hHeld ?_
          rotate_left 2
          · simp only [List.getElem?_toArray, List.getElem?_cons_zero, List.getElem?_cons_succ]; with_reducible rfl
          · exact fun _ _ _ h => h
          · rfl
          · intro wS hSw; (try dsimp only at hSw); go_simp <;> with_reducible rfl
          simp only [put_lit, List.set]
          refine wpAnyH_take (i := 16) (oi := ?_) (v := ?_) ?_ (by kernel_rfl) (by kernel_rfl) (by kernel_rfl) ?_ (Or.inl ⟨?_, ?_⟩) hHeld ?_
          rotate_left 2
          · simp only [List.getElem?_toArray, List.getElem?_cons_zero, List.getElem?_cons_succ]; with_reducible rfl
          · exact fun _ _ _ h => h
          · rfl
          · intro wS hSw; (try dsimp only at hSw); go_simp <;> with_reducible rfl
          simp only [put_lit, List.set]
          refine wpAnyH_take (i := 17) (oi := ?_) (v := ?_) ?_ (by kernel_rfl) (by kernel_rfl) (by kernel_rfl) ?_ (Or.inl ⟨?_, ?_⟩) hHeld ?_
          rotate_left 2
          · simp only [List.getElem?_toArray, List.getElem?_cons_zero, List.getElem?_cons_succ]; with_reducible rfl
          · exact fun _ _ _ h => h
          · rfl
          · intro wS hSw; (try dsimp only at hSw); go_simp <;> with_reducible rfl
          simp only [put_lit, List.set]
          refine wpAnyH_take (i := 18) (oi := ?_) (v := undef) ?_ (by kernel_rfl) (by kernel_rfl) (by kernel_rfl) ?_ (Or.inr ⟨?_, rfl⟩) hHeld ?_
          rotate_left
          · simp only [List.getElem?_toArray, List.getElem?_cons_zero, List.getElem?_cons_succ]; with_reducible rfl
          · exact fun _ _ _ h => h
          · rfl
          simp only [put_lit, List.set]
          refine wpAnyH_take (i := 19) (oi := ?_) (v := undef) ?_ (by kernel_rfl) (by kernel_rfl) (by kernel_rfl) ?_ (Or.inr ⟨?_, rfl⟩) hHeld ?_
          rotate_left
          · simp only [List.getElem?_toArray, List.getElem?_cons_zero, List.getElem?_cons_succ]; with_reducible rfl
          · exact fun _ _ _ h => h
          · rfl
          simp only [put_lit, List.set]
          refine wpAnyH_take (i := 20) (oi := ?_) (v := undef) ?_ (by kernel_rfl) (by kernel_rfl) (by kernel_rfl) ?_ (Or.inr ⟨?_, rfl⟩) hHeld ?_
          rotate_left
          · simp only [List.getElem?_toArray, List.getElem?_cons_zero, List.getElem?_cons_succ]; with_reducible rfl
          · exact fun _ _ _ h => h
          · rfl
          simp only [put_lit, List.set]
          refine wpAnyH_take (i := 21) (oi := ?_) (v := undef) ?_ (by kernel_rfl) (by kernel_rfl) (by kernel_rfl) ?_ (Or.inr ⟨?_, rfl⟩) hHeld ?_
          rotate_left
          · simp only [List.getElem?_toArray, List.getElem?_cons_zero, List.getElem?_cons_succ]; with_reducible rfl
          · exact fun _ _ _ h => h
          · rfl
          simp only [put_lit, List.set]
          refine wpAnyH_take (i := 22) (oi := ?_) (v := undef) ?_ (by kernel_rfl) (by kernel_rfl) (by kernel_rfl) ?_ (Or.inr ⟨?_, rfl⟩) hHeld ?_
          rotate_left
          · simp only [List.getElem?_toArray, List.getElem?_cons_zero, List.getElem?_cons_succ]; with_reducible rfl
          · exact fun _ _ _ h => h
          · rfl
          simp only [put_lit, List.set]
          refine wpAnyH_take (i := 23) (oi := ?_) (v := undef) ?_ (by kernel_rfl) (by kernel_rfl) (by kernel_rfl) ?_ (Or.inr ⟨?_, rfl⟩) hHeld ?_
          rotate_left
          · simp only [List.getElem?_toArray, List.getElem?_cons_zero, List.getElem?_cons_succ]; with_reducible rfl
          · exact fun _ _ _ h => h
          · rfl
          simp only [put_lit, List.set]
          refine wpAnyH_take (i := 24) (oi := ?_) (v := undef) ?_ (by kernel_rfl) (by kernel_rfl) (by kernel_rfl) ?_ (Or.inr ⟨?_, rfl⟩) hHeld ?_
          rotate_left
          · simp only [List.getElem?_toArray, List.getElem?_cons_zero, List.getElem?_cons_succ]; with_reducible rfl
          · exact fun _ _ _ h => h
          · rfl
          simp only [put_lit, List.set]
          refine wpAnyH_take (i := 25) (oi := ?_) (v := undef) ?_ (by kernel_rfl) (by kernel_rfl) (by kernel_rfl) ?_ (Or.inr ⟨?_, rfl⟩) hHeld ?_
          rotate_left
          · simp only [List.getElem?_toArray, List.getElem?_cons_zero, List.getElem?_cons_succ]; with_reducible rfl
          · exact fun _ _ _ h => h
          · rfl
          simp only [put_lit, List.set]
          refine wpAnyH_take (i := 26) (oi := ?_) (v := undef) ?_ (by kernel_rfl) (by kernel_rfl) (by kernel_rfl) ?_ (Or.inr ⟨?_, rfl⟩) hHeld ?_
          rotate_left
          · simp only [List.getElem?_toArray, List.getElem?_cons_zero, List.getElem?_cons_succ]; with_reducible rfl
          · exact fun _ _ _ h => h
          · rfl
          simp only [put_lit, List.set]
          refine wpAnyH_take (i := 27) (oi := ?_) (v := undef) ?_ (by kernel_rfl) (by kernel_rfl) (by kernel_rfl) ?_ (Or.inr ⟨?_, rfl⟩) hHeld ?_
          rotate_left
          · simp only [List.getElem?_toArray, List.getElem?_cons_zero, List.getElem?_cons_succ]; with_reducible rfl
          · exact fun _ _ _ h => h
          · rfl
          simp only [put_lit, List.set]
          refine wpAnyH_take (i := 28) (oi := ?_) (v := undef) ?_ (by kernel_rfl) (by kernel_rfl) (by kernel_rfl) ?_ (Or.inr ⟨?_, rfl⟩) hHeld ?_
          rotate_left
          · simp only [List.getElem?_toArray, List.getElem?_cons_zero, List.getElem?_cons_succ]; with_reducible rfl
          · exact fun _ _ _ h => h
          · rfl
          simp only [put_lit, List.set]
          refine wpAnyH_take (i := 29) (oi := ?_) (v := undef) ?_ (by kernel_rfl) (by kernel_rfl) (by kernel_rfl) ?_ (Or.inr ⟨?_, rfl⟩) hHeld ?_
          rotate_left
          · simp only [List.getElem?_toArray, List.getElem?_cons_zero, List.getElem?_cons_succ]; with_reducible rfl
          · exact fun _ _ _ h => h
          · rfl
          simp only [put_lit, List.set]
          refine wpAnyH_take (i := 30) (oi := ?_) (v := undef) ?_ (by kernel_rfl) (by kernel_rfl) (by kernel_rfl) ?_ (Or.inr ⟨?_, rfl⟩) hHeld ?_
          rotate_left
          · simp only [List.getElem?_toArray, List.getElem?_cons_zero, List.getElem?_cons_succ]; with_reducible rfl
          · exact fun _ _ _ h => h
          · rfl
          simp only [put_lit, List.set]
          refine wpAnyH_take (i := 31) (oi := ?_) (v := ?_) ?_ (by kernel_rfl) (by kernel_rfl) (by kernel_rfl) ?_ (Or.inl ⟨?_, ?_⟩) hHeld ?_
          rotate_left 2
          · simp only [List.getElem?_toArray, List.getElem?_cons_zero, List.getElem?_cons_succ]; with_reducible rfl
          · exact fun _ _ _ h => h
          · rfl
          · intro wS hSw; (try dsimp only at hSw); go_simp <;> with_reducible rfl
          simp only [put_lit, List.set]
          refine wpAnyH_done (by kernel_rfl) ?_ _
          have HBB : Hid (Below w.heap.size w w2) := below_more HB.out hb2.out HB.out.size
          clear hHeld hb2 HC HB
          clear keepS hVd CCd
          go_wp2
          go_roundw
          case rel => exact ⟨k, i + 1, by omega, by omega, by go_num, by go_num, HS.out, HBB.out⟩
          case measure => simp [intOf]; omega
        · have hpq : qB 1 true l[i] = true := by rw [hx]; unfold qB; rw [hv]; simp [hp]
          rw [hx] at c0 c1 c2 c3 c4
          clear hv HSK
          by_cases hk0 : k = 0
          · subst hk0
            have HS : Hid (BestAt (qB 1 true) l (i + 1) (i + 1)) := H.out.take0 hlt hpq
            have h01 : (((0 : Nat) : Int) - 1) = -1 := by omega
            rw [h01]
            clear h01 hpq
            go_upto_region 5 with fail
            have HXX : Hid (l[i] = x) := hx
            have keepS : Hid (∀ X, Below wr.heap.size wr X → X.cell? ⟨b, off + i * 5, none⟩ = some (.int .i64 x.id) ∧ X.cell? ⟨b, off + i * 5 + 1, none⟩ = some (.int .i64 x.addr) ∧ X.cell? ⟨b, off + i * 5 + 2, none⟩ = some (.int .i64 x.prio) ∧ X.cell? ⟨b, off + i * 5 + 3, none⟩ = some (.int .i64 x.dr) ∧ X.cell? ⟨b, off + i * 5 + 4, none⟩ = some (.int .i64 x.bdr) ∧ Hid (Below wr.heap.size wr X)) := fun X hX => by
              obtain ⟨e0, e1, e2, e3, e4⟩ := HC.out X hX i hlt
              rw [HXX.out] at e0 e1 e2 e3 e4
              exact ⟨e0, e1, e2, e3, e4, hX⟩
            have hVd : Hid (Below wr.heap.size wr wr.drew) := (Below.refl _ _).drew
            have CCd : ∀ W (h : Below wr.heap.size wr W), Calls Try.prog 23 #[.agg (candA x)] W fun e w' => e = .returned (.int .i64 2) ∧ Hid (Below wr.heap.size wr w') := fun W h => (CC W).mono fun e w' ⟨h1, h2⟩ => ⟨h1, below_more h h2 h.size⟩
            clear CC hx c0 c1 c2 c3 c4
            refine wp_region_held_drew (S := (fun X => X.cell? ⟨b, off + i * 5, none⟩ = some (.int .i64 x.id) ∧ X.cell? ⟨b, off + i * 5 + 1, none⟩ = some (.int .i64 x.addr) ∧ X.cell? ⟨b, off + i * 5 + 2, none⟩ = some (.int .i64 x.prio) ∧ X.cell? ⟨b, off + i * 5 + 3, none⟩ = some (.int .i64 x.dr) ∧ X.cell? ⟨b, off + i * 5 + 4, none⟩ = some (.int .i64 x.bdr) ∧ Hid (Below wr.heap.size wr X))) (by kernel_rfl) ?_ (fun hHeld => ?_)
            · exact keepS.out _ hVd.out
            refine wpAnyH_take (i := 0) (oi := ?_) (v := ?_) ?_ (by kernel_rfl) (by kernel_rfl) (by kernel_rfl) ?_ (Or.inl ⟨?_, ?_⟩) hHeld ?_
            rotate_left 2
            · simp only [List.getElem?_toArray, List.getElem?_cons_zero]; with_reducible rfl
            · exact fun _ _ _ h => h
            · rfl
            · intro wS hSw; (try dsimp only at hSw); go_simp <;> with_reducible rfl
            simp only [put_lit, List.set]
            refine wpAnyH_take (i := 1) (oi := ?_) (v := ?_) ?_ (by kernel_rfl) (by kernel_rfl) (by kernel_rfl) ?_ (Or.inl ⟨?_, ?_⟩) hHeld ?_
            rotate_left 2
            · simp only [List.getElem?_toArray, List.getElem?_cons_zero, List.getElem?_cons_succ]; with_reducible rfl
            · exact fun _ _ _ h => h
            · rfl
            · intro wS hSw; (try dsimp only at hSw); go_simp <;> with_reducible rfl
            simp only [put_lit, List.set]
            refine wpAnyH_take (i := 2) (oi := ?_) (v := ?_) ?_ (by kernel_rfl) (by kernel_rfl) (by kernel_rfl) ?_ (Or.inl ⟨?_, ?_⟩) hHeld ?_
            rotate_left 2
            · simp only [List.getElem?_toArray, List.getElem?_cons_zero, List.getElem?_cons_succ]; with_reducible rfl
            · exact fun _ _ _ h => h
            · rfl
            · intro wS hSw; (try dsimp only at hSw); go_simp <;> with_reducible rfl
            simp only [put_lit, List.set]
            refine wpAnyH_take (i := 3) (oi := ?_) (v := ?_) ?_ (by kernel_rfl) (by kernel_rfl) (by kernel_rfl) ?_ (Or.inl ⟨?_, ?_⟩) hHeld ?_
            rotate_left 2
            · simp only [List.getElem?_toArray, List.getElem?_cons_zero, List.getElem?_cons_succ]; with_reducible rfl
            · exact fun _ _ _ h => h
            · rfl
            · intro wS hSw; (try dsimp only at hSw); go_simp <;> with_reducible rfl
            simp only [put_lit, List.set]
            refine wpAnyH_take (i := 4) (oi := ?_) (v := ?_) ?_ (by kernel_rfl) (by kernel_rfl) (by kernel_rfl) ?_ (Or.inl ⟨?_, ?_⟩) hHeld ?_
            rotate_left 2
            · simp only [List.getElem?_toArray, List.getElem?_cons_zero, List.getElem?_cons_succ]; with_reducible rfl
            · exact fun _ _ _ h => h
            · rfl
            · intro wS hSw; (try dsimp only at hSw); go_simp <;> with_reducible rfl
            simp only [put_lit, List.set]
            refine wpAnyH_take (i := 5) (oi := ?_) (v := ?_) ?_ (by kernel_rfl) (by kernel_rfl) (by kernel_rfl) ?_ (Or.inl ⟨?_, ?_⟩) hHeld ?_
            rotate_left 2
            · simp only [List.getElem?_toArray, List.getElem?_cons_zero, List.getElem?_cons_succ]; with_reducible rfl
            · exact fun _ _ _ h => h
            · rfl
            · intro wS hSw; (try dsimp only at hSw); go_simp <;> with_reducible rfl
            simp only [put_lit, List.set]
            refine wpAnyH_take (i := 6) (oi := ?_) (v := ?_) ?_ (by kernel_rfl) (by kernel_rfl) (by kernel_rfl) ?_ (Or.inl ⟨?_, ?_⟩) hHeld ?_
            rotate_left 2
            · simp only [List.getElem?_toArray, List.getElem?_cons_zero, List.getElem?_cons_succ]; with_reducible rfl
            · exact fun _ _ _ h => h
            · rfl
            · intro wS hSw; (try dsimp only at hSw); go_simp <;> with_reducible rfl
            simp only [put_lit, List.set]
            refine wpAnyH_take (i := 7) (oi := ?_) (v := ?_) ?_ (by kernel_rfl) (by kernel_rfl) (by kernel_rfl) ?_ (Or.inl ⟨?_, ?_⟩) hHeld ?_
            rotate_left 2
            · simp only [List.getElem?_toArray, List.getElem?_cons_zero, List.getElem?_cons_succ]; with_reducible rfl
            · exact fun _ _ _ h => h
            · rfl
            · intro wS hSw; (try dsimp only at hSw); go_simp <;> with_reducible rfl
            simp only [put_lit, List.set]
            refine wpAnyH_take (i := 8) (oi := ?_) (v := ?_) ?_ (by kernel_rfl) (by kernel_rfl) (by kernel_rfl) ?_ (Or.inl ⟨?_, ?_⟩) hHeld ?_
            rotate_left 2
            · simp only [List.getElem?_toArray, List.getElem?_cons_zero, List.getElem?_cons_succ]; with_reducible rfl
            · exact fun _ _ _ h => h
            · rfl
            · intro wS hSw; (try dsimp only at hSw); go_simp <;> with_reducible rfl
            simp only [put_lit, List.set]
            refine wpAnyH_take (i := 9) (oi := ?_) (v := ?_) ?_ (by kernel_rfl) (by kernel_rfl) (by kernel_rfl) ?_ (Or.inl ⟨?_, ?_⟩) hHeld ?_
            rotate_left 2
            · simp only [List.getElem?_toArray, List.getElem?_cons_zero, List.getElem?_cons_succ]; with_reducible rfl
            · exact fun _ _ _ h => h
            · rfl
            · intro wS hSw; (try dsimp only at hSw); go_simp <;> with_reducible rfl
            simp only [put_lit, List.set]
            refine wpAnyH_take (i := 10) (oi := ?_) (v := ?_) ?_ (by kernel_rfl) (by kernel_rfl) (by kernel_rfl) ?_ (Or.inl ⟨?_, ?_⟩) hHeld ?_
            rotate_left 2
            · simp only [List.getElem?_toArray, List.getElem?_cons_zero, List.getElem?_cons_succ]; with_reducible rfl
            · exact fun _ _ _ h => h
            · rfl
            · intro wS hSw; (try dsimp only at hSw); go_simp <;> with_reducible rfl
            simp only [put_lit, List.set]
            refine wpAnyH_take (i := 12) (oi := ?_) (v := ?_) ?_ (by kernel_rfl) (by kernel_rfl) (by kernel_rfl) ?_ (Or.inl ⟨?_, ?_⟩) hHeld ?_
            rotate_left 2
            · simp only [List.getElem?_toArray, List.getElem?_cons_zero, List.getElem?_cons_succ]; with_reducible rfl
            · exact fun _ _ _ h => h
            · rfl
            · intro wS hSw; (try dsimp only at hSw); go_simp <;> with_reducible rfl
            simp only [put_lit, List.set]
            refine wpAnyH_take (i := 14) (oi := ?_) (v := ?_) ?_ (by kernel_rfl) (by kernel_rfl) (by kernel_rfl) ?_ (Or.inl ⟨?_, ?_⟩) hHeld ?_
            rotate_left 2
            · simp only [List.getElem?_toArray, List.getElem?_cons_zero, List.getElem?_cons_succ]; with_reducible rfl
            · exact fun _ _ _ h => h
            · rfl
            · intro wS hSw; (try dsimp only at hSw); go_simp <;> with_reducible rfl
            simp only [put_lit, List.set]
            refine wpAnyH_ready (rs := [11]) (by kernel_rfl) (by simp) ?_
            refine AllReadyH.cons rfl (fun K hK => ?_) AllReadyH.nil
            go_simp
            go_at_call 23
            refine (CCd _ hVd.out).mono ?_
            rintro e w2 ⟨rfl, hb2⟩
            go_wp2_with fail
            refine hK.out _ _ ?_ (fun hHeld2 => ?_)
            · exact keepS.out _ hb2.out
            clear hK K hHeld
            have hHeld := hHeld2
            clear hHeld2
            (try simp only [put_lit, List.set])
            refine wpAnyH_take (i := 13) (oi := ?_) (v := ?_) ?_ (by kernel_rfl) (by kernel_rfl) (by kernel_rfl) ?_ (Or.inl ⟨?_, ?_⟩) hHeld ?_
            rotate_left 2
            · simp only [List.getElem?_toArray, List.getElem?_cons_zero, List.getElem?_cons_succ]; with_reducible rfl
            · exact fun _ _ _ h => h
            · rfl
            · intro wS hSw; (try dsimp only at hSw); go_simp <;> with_reducible rfl
            simp only [put_lit, List.set]
            refine wpAnyH_take (i := 15) (oi := ?_) (v := ?_) ?_ (by kernel_rfl) (by kernel_rfl) (by kernel_rfl) ?_ (Or.inl ⟨?_, ?_⟩) hHeld ?_
            rotate_left 2
            · simp only [List.getElem?_toArray, List.getElem?_cons_zero, List.getElem?_cons_succ]; with_reducible rfl
            · exact fun _ _ _ h => h
            · rfl
            · intro wS hSw; (try dsimp only at hSw); go_simp <;> with_reducible rfl
            simp only [put_lit, List.set]
            refine wpAnyH_take (i := 16) (oi := ?_) (v := ?_) ?_ (by kernel_rfl) (by kernel_rfl) (by kernel_rfl) ?_ (Or.inl ⟨?_, ?_⟩) hHeld ?_
            rotate_left 2
            · simp only [List.getElem?_toArray, List.getElem?_cons_zero, List.getElem?_cons_succ]; with_reducible rfl
            · exact fun _ _ _ h => h
            · rfl
            · intro wS hSw; (try dsimp only at hSw); go_simp <;> with_reducible rfl
            simp only [put_lit, List.set]
            refine wpAnyH_take (i := 17) (oi := ?_) (v := ?_) ?_ (by kernel_rfl) (by kernel_rfl) (by kernel_rfl) ?_ (Or.inl ⟨?_, ?_⟩) hHeld ?_
            rotate_left 2
            · simp only [List.getElem?_toArray, List.getElem?_cons_zero, List.getElem?_cons_succ]; with_reducible rfl
            · exact fun _ _ _ h => h
            · rfl
            · intro wS hSw; (try dsimp only at hSw); go_simp <;> with_reducible rfl
            simp only [put_lit, List.set]
            refine wpAnyH_take (i := 18) (oi := ?_) (v := ?_) ?_ (by kernel_rfl) (by kernel_rfl) (by kernel_rfl) ?_ (Or.inl ⟨?_, ?_⟩) hHeld ?_
            rotate_left 2
            · simp only [List.getElem?_toArray, List.getElem?_cons_zero, List.getElem?_cons_succ]; with_reducible rfl
            · exact fun _ _ _ h => h
            · rfl
            · intro wS hSw; (try dsimp only at hSw); go_simp <;> with_reducible rfl
            simp only [put_lit, List.set]
            refine wpAnyH_take (i := 19) (oi := ?_) (v := ?_) ?_ (by kernel_rfl) (by kernel_rfl) (by kernel_rfl) ?_ (Or.inl ⟨?_, ?_⟩) hHeld ?_
            rotate_left 2
            · simp only [List.getElem?_toArray, List.getElem?_cons_zero, List.getElem?_cons_succ]; with_reducible rfl
            · exact fun _ _ _ h => h
            · rfl
            · intro wS hSw; (try dsimp only at hSw); go_simp <;> with_reducible rfl
            simp only [put_lit, List.set]
            refine wpAnyH_take (i := 20) (oi := ?_) (v := ?_) ?_ (by kernel_rfl) (by kernel_rfl) (by kernel_rfl) ?_ (Or.inl ⟨?_, ?_⟩) hHeld ?_
            rotate_left 2
            · simp only [List.getElem?_toArray, List.getElem?_cons_zero, List.getElem?_cons_succ]; with_reducible rfl
            · exact fun _ _ _ h => h
            · rfl
            · intro wS hSw; (try dsimp only at hSw); go_simp <;> with_reducible rfl
            simp only [put_lit, List.set]
            refine wpAnyH_take (i := 21) (oi := ?_) (v := undef) ?_ (by kernel_rfl) (by kernel_rfl) (by kernel_rfl) ?_ (Or.inr ⟨?_, rfl⟩) hHeld ?_
            rotate_left
            · simp only [List.getElem?_toArray, List.getElem?_cons_zero, List.getElem?_cons_succ]; with_reducible rfl
            · exact fun _ _ _ h => h
            · rfl
            simp only [put_lit, List.set]
            refine wpAnyH_take (i := 22) (oi := ?_) (v := undef) ?_ (by kernel_rfl) (by kernel_rfl) (by kernel_rfl) ?_ (Or.inr ⟨?_, rfl⟩) hHeld ?_
            rotate_left
            · simp only [List.getElem?_toArray, List.getElem?_cons_zero, List.getElem?_cons_succ]; with_reducible rfl
            · exact fun _ _ _ h => h
            · rfl
            simp only [put_lit, List.set]
            refine wpAnyH_take (i := 23) (oi := ?_) (v := undef) ?_ (by kernel_rfl) (by kernel_rfl) (by kernel_rfl) ?_ (Or.inr ⟨?_, rfl⟩) hHeld ?_
            rotate_left
            · simp only [List.getElem?_toArray, List.getElem?_cons_zero, List.getElem?_cons_succ]; with_reducible rfl
            · exact fun _ _ _ h => h
            · rfl
            simp only [put_lit, List.set]
            refine wpAnyH_take (i := 24) (oi := ?_) (v := undef) ?_ (by kernel_rfl) (by kernel_rfl) (by kernel_rfl) ?_ (Or.inr ⟨?_, rfl⟩) hHeld ?_
            rotate_left
            · simp only [List.getElem?_toArray, List.getElem?_cons_zero, List.getElem?_cons_succ]; with_reducible rfl
            · exact fun _ _ _ h => h
            · rfl
            simp only [put_lit, List.set]
            refine wpAnyH_take (i := 25) (oi := ?_) (v := undef) ?_ (by kernel_rfl) (by kernel_rfl) (by kernel_rfl) ?_ (Or.inr ⟨?_, rfl⟩) hHeld ?_
            rotate_left
            · simp only [List.getElem?_toArray, List.getElem?_cons_zero, List.getElem?_cons_succ]; with_reducible rfl
            · exact fun _ _ _ h => h
            · rfl
            simp only [put_lit, List.set]
            refine wpAnyH_take (i := 26) (oi := ?_) (v := undef) ?_ (by kernel_rfl) (by kernel_rfl) (by kernel_rfl) ?_ (Or.inr ⟨?_, rfl⟩) hHeld ?_
            rotate_left
            · simp only [List.getElem?_toArray, List.getElem?_cons_zero, List.getElem?_cons_succ]; with_reducible rfl
            · exact fun _ _ _ h => h
            · rfl
            simp only [put_lit, List.set]
            refine wpAnyH_take (i := 27) (oi := ?_) (v := undef) ?_ (by kernel_rfl) (by kernel_rfl) (by kernel_rfl) ?_ (Or.inr ⟨?_, rfl⟩) hHeld ?_
            rotate_left
            · simp only [List.getElem?_toArray, List.getElem?_cons_zero, List.getElem?_cons_succ]; with_reducible rfl
            · exact fun _ _ _ h => h
            · rfl
            simp only [put_lit, List.set]
            refine wpAnyH_take (i := 28) (oi := ?_) (v := undef) ?_ (by kernel_rfl) (by kernel_rfl) (by kernel_rfl) ?_ (Or.inr ⟨?_, rfl⟩) hHeld ?_
            rotate_left
            · simp only [List.getElem?_toArray, List.getElem?_cons_zero, List.getElem?_cons_succ]; with_reducible rfl
            · exact fun _ _ _ h => h
            · rfl
            simp only [put_lit, List.set]
            refine wpAnyH_take (i := 29) (oi := ?_) (v := undef) ?_ (by kernel_rfl) (by kernel_rfl) (by kernel_rfl) ?_ (Or.inr ⟨?_, rfl⟩) hHeld ?_
            rotate_left
            · simp only [List.getElem?_toArray, List.getElem?_cons_zero, List.getElem?_cons_succ]; with_reducible rfl
            · exact fun _ _ _ h => h
            · rfl
            simp only [put_lit, List.set]
            refine wpAnyH_take (i := 30) (oi := ?_) (v := ?_) ?_ (by kernel_rfl) (by kernel_rfl) (by kernel_rfl) ?_ (Or.inl ⟨?_, ?_⟩) hHeld ?_
            rotate_left 2
            · simp only [List.getElem?_toArray, List.getElem?_cons_zero, List.getElem?_cons_succ]; with_reducible rfl
            · exact fun _ _ _ h => h
            · rfl
            · intro wS hSw; (try dsimp only at hSw); go_simp <;> with_reducible rfl
            simp only [put_lit, List.set]
            refine wpAnyH_take (i := 31) (oi := ?_) (v := ?_) ?_ (by kernel_rfl) (by kernel_rfl) (by kernel_rfl) ?_ (Or.inl ⟨?_, ?_⟩) hHeld ?_
            rotate_left 2
            · simp only [List.getElem?_toArray, List.getElem?_cons_zero, List.getElem?_cons_succ]; with_reducible rfl
            · exact fun _ _ _ h => h
            · rfl
            · intro wS hSw; (try dsimp only at hSw); go_simp <;> with_reducible rfl
            simp only [put_lit, List.set]
            refine wpAnyH_done (by kernel_rfl) ?_ _
            have HBB : Hid (Below w.heap.size w w2) := below_more HB.out hb2.out HB.out.size
            clear hHeld hb2 HC HB
            clear keepS hVd CCd
            go_wp2
            go_roundw
            case rel => exact ⟨i + 1, i + 1, by omega, by omega, by go_num, by go_num, HS.out, HBB.out⟩
            case measure => simp [intOf]; omega
          · obtain ⟨m, rfl⟩ : ∃ m, k = m + 1 := ⟨k - 1, by omega⟩
            have hml : m < l.length := by omega
            have h01 : (((m + 1 : Nat) : Int) - 1) = (m : Int) := by omega
            rw [h01]
            clear h01
            have hmI : (m : Int) < (l.length : Int) := by omega
            have HT1 : Hid (LeC l[m] l[i] → BestAt (qB 1 true) l (i + 1) (i + 1)) := fun h => H.out.take1 hlt hpq (by simpa using hml) (by simpa using h) (by omega)
            have HT2 : Hid (LeC l[i] l[m] → BestAt (qB 1 true) l (i + 1) (m + 1)) := fun h => H.out.keep hlt (by simpa using hml) (by simpa using h) (by omega)
            obtain ⟨y, hy⟩ : ∃ y, l[m] = y := ⟨_, rfl⟩
            rw [hx, hy] at HT1 HT2
            have HYY : Hid (l[m] = y) := hy
            obtain ⟨d0, d1, d2, d3, d4⟩ := HC.out wr (Below.refl _ _) m hml
            rw [hy] at d0 d1 d2 d3 d4
            have HTQ : Hid (∀ q, bettB x y = q → BestAt (qB 1 true) l (i + 1) (if q then i + 1 else m + 1)) := fun q hq => by
              cases q
              · exact HT2.out (bett_no hq)
              · exact HT1.out (bett_yes hq)
            have CB := rbetter_any x y
            obtain ⟨q, hq⟩ : ∃ q, bettB x y = q := ⟨_, rfl⟩
            have HS : Hid (BestAt (qB 1 true) l (i + 1) (if q then i + 1 else m + 1)) := HTQ.out q hq
            rw [hq] at CB
            clear hpq HT1 HT2 HTQ hq
            go_upto_region 5 with fail
            have HXX : Hid (l[i] = x) := hx
            have keepS : Hid (∀ X, Below wr.heap.size wr X → X.cell? ⟨b, off + i * 5, none⟩ = some (.int .i64 x.id) ∧ X.cell? ⟨b, off + i * 5 + 1, none⟩ = some (.int .i64 x.addr) ∧ X.cell? ⟨b, off + i * 5 + 2, none⟩ = some (.int .i64 x.prio) ∧ X.cell? ⟨b, off + i * 5 + 3, none⟩ = some (.int .i64 x.dr) ∧ X.cell? ⟨b, off + i * 5 + 4, none⟩ = some (.int .i64 x.bdr) ∧ X.cell? ⟨b, off + m * 5, none⟩ = some (.int .i64 y.id) ∧ X.cell? ⟨b, off + m * 5 + 1, none⟩ = some (.int .i64 y.addr) ∧ X.cell? ⟨b, off + m * 5 + 2, none⟩ = some (.int .i64 y.prio) ∧ X.cell? ⟨b, off + m * 5 + 3, none⟩ = some (.int .i64 y.dr) ∧ X.cell? ⟨b, off + m * 5 + 4, none⟩ = some (.int .i64 y.bdr) ∧ Hid (Below wr.heap.size wr X)) := fun X hX => by
              obtain ⟨e0, e1, e2, e3, e4⟩ := HC.out X hX i hlt
              rw [HXX.out] at e0 e1 e2 e3 e4
              obtain ⟨f0, f1, f2, f3, f4⟩ := HC.out X hX m hml
              rw [HYY.out] at f0 f1 f2 f3 f4
              exact ⟨e0, e1, e2, e3, e4, f0, f1, f2, f3, f4, hX⟩
            have hVd : Hid (Below wr.heap.size wr wr.drew) := (Below.refl _ _).drew
            have CCd : ∀ W (h : Below wr.heap.size wr W), Calls Try.prog 23 #[.agg (candA x)] W fun e w' => e = .returned (.int .i64 2) ∧ Hid (Below wr.heap.size wr w') := fun W h => (CC W).mono fun e w' ⟨h1, h2⟩ => ⟨h1, below_more h h2 h.size⟩
            have CBd : ∀ W (h : Below wr.heap.size wr W), Calls Try.prog 24 #[.agg (candA x), .agg (candA y)] W fun e w' => e = .returned (.bool q) ∧ Hid (Below wr.heap.size wr w') := fun W h => (CB W).mono fun e w' ⟨h1, h2⟩ => ⟨h1, below_more h h2 h.size⟩
            clear CC CB hx hy c0 c1 c2 c3 c4 d0 d1 d2 d3 d4
            refine wp_region_held_drew (S := (fun X => X.cell? ⟨b, off + i * 5, none⟩ = some (.int .i64 x.id) ∧ X.cell? ⟨b, off + i * 5 + 1, none⟩ = some (.int .i64 x.addr) ∧ X.cell? ⟨b, off + i * 5 + 2, none⟩ = some (.int .i64 x.prio) ∧ X.cell? ⟨b, off + i * 5 + 3, none⟩ = some (.int .i64 x.dr) ∧ X.cell? ⟨b, off + i * 5 + 4, none⟩ = some (.int .i64 x.bdr) ∧ X.cell? ⟨b, off + m * 5, none⟩ = some (.int .i64 y.id) ∧ X.cell? ⟨b, off + m * 5 + 1, none⟩ = some (.int .i64 y.addr) ∧ X.cell? ⟨b, off + m * 5 + 2, none⟩ = some (.int .i64 y.prio) ∧ X.cell? ⟨b, off + m * 5 + 3, none⟩ = some (.int .i64 y.dr) ∧ X.cell? ⟨b, off + m * 5 + 4, none⟩ = some (.int .i64 y.bdr) ∧ Hid (Below wr.heap.size wr X))) (by kernel_rfl) ?_ (fun hHeld => ?_)
            · exact keepS.out _ hVd.out
            refine wpAnyH_take (i := 0) (oi := ?_) (v := ?_) ?_ (by kernel_rfl) (by kernel_rfl) (by kernel_rfl) ?_ (Or.inl ⟨?_, ?_⟩) hHeld ?_
            rotate_left 2
            · simp only [List.getElem?_toArray, List.getElem?_cons_zero]; with_reducible rfl
            · exact fun _ _ _ h => h
            · rfl
            · intro wS hSw; (try dsimp only at hSw); go_simp <;> with_reducible rfl
            simp only [put_lit, List.set]
            refine wpAnyH_take (i := 1) (oi := ?_) (v := ?_) ?_ (by kernel_rfl) (by kernel_rfl) (by kernel_rfl) ?_ (Or.inl ⟨?_, ?_⟩) hHeld ?_
            rotate_left 2
            · simp only [List.getElem?_toArray, List.getElem?_cons_zero, List.getElem?_cons_succ]; with_reducible rfl
            · exact fun _ _ _ h => h
            · rfl
            · intro wS hSw; (try dsimp only at hSw); go_simp <;> with_reducible rfl
            simp only [put_lit, List.set]
            refine wpAnyH_take (i := 2) (oi := ?_) (v := ?_) ?_ (by kernel_rfl) (by kernel_rfl) (by kernel_rfl) ?_ (Or.inl ⟨?_, ?_⟩) hHeld ?_
            rotate_left 2
            · simp only [List.getElem?_toArray, List.getElem?_cons_zero, List.getElem?_cons_succ]; with_reducible rfl
            · exact fun _ _ _ h => h
            · rfl
            · intro wS hSw; (try dsimp only at hSw); go_simp <;> with_reducible rfl
            simp only [put_lit, List.set]
            refine wpAnyH_take (i := 3) (oi := ?_) (v := ?_) ?_ (by kernel_rfl) (by kernel_rfl) (by kernel_rfl) ?_ (Or.inl ⟨?_, ?_⟩) hHeld ?_
            rotate_left 2
            · simp only [List.getElem?_toArray, List.getElem?_cons_zero, List.getElem?_cons_succ]; with_reducible rfl
            · exact fun _ _ _ h => h
            · rfl
            · intro wS hSw; (try dsimp only at hSw); go_simp <;> with_reducible rfl
            simp only [put_lit, List.set]
            refine wpAnyH_take (i := 4) (oi := ?_) (v := ?_) ?_ (by kernel_rfl) (by kernel_rfl) (by kernel_rfl) ?_ (Or.inl ⟨?_, ?_⟩) hHeld ?_
            rotate_left 2
            · simp only [List.getElem?_toArray, List.getElem?_cons_zero, List.getElem?_cons_succ]; with_reducible rfl
            · exact fun _ _ _ h => h
            · rfl
            · intro wS hSw; (try dsimp only at hSw); go_simp <;> with_reducible rfl
            simp only [put_lit, List.set]
            refine wpAnyH_take (i := 5) (oi := ?_) (v := ?_) ?_ (by kernel_rfl) (by kernel_rfl) (by kernel_rfl) ?_ (Or.inl ⟨?_, ?_⟩) hHeld ?_
            rotate_left 2
            · simp only [List.getElem?_toArray, List.getElem?_cons_zero, List.getElem?_cons_succ]; with_reducible rfl
            · exact fun _ _ _ h => h
            · rfl
            · intro wS hSw; (try dsimp only at hSw); go_simp <;> with_reducible rfl
            simp only [put_lit, List.set]
            refine wpAnyH_take (i := 6) (oi := ?_) (v := ?_) ?_ (by kernel_rfl) (by kernel_rfl) (by kernel_rfl) ?_ (Or.inl ⟨?_, ?_⟩) hHeld ?_
            rotate_left 2
            · simp only [List.getElem?_toArray, List.getElem?_cons_zero, List.getElem?_cons_succ]; with_reducible rfl
            · exact fun _ _ _ h => h
            · rfl
            · intro wS hSw; (try dsimp only at hSw); go_simp <;> with_reducible rfl
            simp only [put_lit, List.set]
            refine wpAnyH_take (i := 7) (oi := ?_) (v := ?_) ?_ (by kernel_rfl) (by kernel_rfl) (by kernel_rfl) ?_ (Or.inl ⟨?_, ?_⟩) hHeld ?_
            rotate_left 2
            · simp only [List.getElem?_toArray, List.getElem?_cons_zero, List.getElem?_cons_succ]; with_reducible rfl
            · exact fun _ _ _ h => h
            · rfl
            · intro wS hSw; (try dsimp only at hSw); go_simp <;> with_reducible rfl
            simp only [put_lit, List.set]
            refine wpAnyH_take (i := 8) (oi := ?_) (v := ?_) ?_ (by kernel_rfl) (by kernel_rfl) (by kernel_rfl) ?_ (Or.inl ⟨?_, ?_⟩) hHeld ?_
            rotate_left 2
            · simp only [List.getElem?_toArray, List.getElem?_cons_zero, List.getElem?_cons_succ]; with_reducible rfl
            · exact fun _ _ _ h => h
            · rfl
            · intro wS hSw; (try dsimp only at hSw); go_simp <;> with_reducible rfl
            simp only [put_lit, List.set]
            refine wpAnyH_take (i := 9) (oi := ?_) (v := ?_) ?_ (by kernel_rfl) (by kernel_rfl) (by kernel_rfl) ?_ (Or.inl ⟨?_, ?_⟩) hHeld ?_
            rotate_left 2
            · simp only [List.getElem?_toArray, List.getElem?_cons_zero, List.getElem?_cons_succ]; with_reducible rfl
            · exact fun _ _ _ h => h
            · rfl
            · intro wS hSw; (try dsimp only at hSw); go_simp <;> with_reducible rfl
            simp only [put_lit, List.set]
            refine wpAnyH_take (i := 10) (oi := ?_) (v := ?_) ?_ (by kernel_rfl) (by kernel_rfl) (by kernel_rfl) ?_ (Or.inl ⟨?_, ?_⟩) hHeld ?_
            rotate_left 2
            · simp only [List.getElem?_toArray, List.getElem?_cons_zero, List.getElem?_cons_succ]; with_reducible rfl
            · exact fun _ _ _ h => h
            · rfl
            · intro wS hSw; (try dsimp only at hSw); go_simp <;> with_reducible rfl
            simp only [put_lit, List.set]
            refine wpAnyH_take (i := 12) (oi := ?_) (v := ?_) ?_ (by kernel_rfl) (by kernel_rfl) (by kernel_rfl) ?_ (Or.inl ⟨?_, ?_⟩) hHeld ?_
            rotate_left 2
            · simp only [List.getElem?_toArray, List.getElem?_cons_zero, List.getElem?_cons_succ]; with_reducible rfl
            · exact fun _ _ _ h => h
            · rfl
            · intro wS hSw; (try dsimp only at hSw); go_simp <;> with_reducible rfl
            simp only [put_lit, List.set]
            refine wpAnyH_take (i := 14) (oi := ?_) (v := ?_) ?_ (by kernel_rfl) (by kernel_rfl) (by kernel_rfl) ?_ (Or.inl ⟨?_, ?_⟩) hHeld ?_
            rotate_left 2
            · simp only [List.getElem?_toArray, List.getElem?_cons_zero, List.getElem?_cons_succ]; with_reducible rfl
            · exact fun _ _ _ h => h
            · rfl
            · intro wS hSw; (try dsimp only at hSw); go_simp <;> with_reducible rfl
            simp only [put_lit, List.set]
            refine wpAnyH_ready (rs := [11]) (by kernel_rfl) (by simp) ?_
            refine AllReadyH.cons rfl (fun K hK => ?_) AllReadyH.nil
            go_simp
            go_at_call 23
            refine (CCd _ hVd.out).mono ?_
            rintro e w2 ⟨rfl, hb2⟩
            go_wp2_with fail
            refine hK.out _ _ ?_ (fun hHeld2 => ?_)
            · exact keepS.out _ hb2.out
            clear hK K hHeld
            have hHeld := hHeld2
            clear hHeld2
            (try simp only [put_lit, List.set])
            refine wpAnyH_take (i := 13) (oi := ?_) (v := ?_) ?_ (by kernel_rfl) (by kernel_rfl) (by kernel_rfl) ?_ (Or.inl ⟨?_, ?_⟩) hHeld ?_
            rotate_left 2
            · simp only [List.getElem?_toArray, List.getElem?_cons_zero, List.getElem?_cons_succ]; with_reducible rfl
            · exact fun _ _ _ h => h
            · rfl
            · intro wS hSw; (try dsimp only at hSw); go_simp <;> with_reducible rfl
            simp only [put_lit, List.set]
            refine wpAnyH_take (i := 15) (oi := ?_) (v := ?_) ?_ (by kernel_rfl) (by kernel_rfl) (by kernel_rfl) ?_ (Or.inl ⟨?_, ?_⟩) hHeld ?_
            rotate_left 2
            · simp only [List.getElem?_toArray, List.getElem?_cons_zero, List.getElem?_cons_succ]; with_reducible rfl
            · exact fun _ _ _ h => h
            · rfl
            · intro wS hSw; (try dsimp only at hSw); go_simp <;> with_reducible rfl
            simp only [put_lit, List.set]
            refine wpAnyH_take (i := 16) (oi := ?_) (v := ?_) ?_ (by kernel_rfl) (by kernel_rfl) (by kernel_rfl) ?_ (Or.inl ⟨?_, ?_⟩) hHeld ?_
            rotate_left 2
            · simp only [List.getElem?_toArray, List.getElem?_cons_zero, List.getElem?_cons_succ]; with_reducible rfl
            · exact fun _ _ _ h => h
            · rfl
            · intro wS hSw; (try dsimp only at hSw); go_simp <;> with_reducible rfl
            simp only [put_lit, List.set]
            refine wpAnyH_take (i := 17) (oi := ?_) (v := ?_) ?_ (by kernel_rfl) (by kernel_rfl) (by kernel_rfl) ?_ (Or.inl ⟨?_, ?_⟩) hHeld ?_
            rotate_left 2
            · simp only [List.getElem?_toArray, List.getElem?_cons_zero, List.getElem?_cons_succ]; with_reducible rfl
            · exact fun _ _ _ h => h
            · rfl
            · intro wS hSw; (try dsimp only at hSw); go_simp <;> with_reducible rfl
            simp only [put_lit, List.set]
            refine wpAnyH_take (i := 18) (oi := ?_) (v := ?_) ?_ (by kernel_rfl) (by kernel_rfl) (by kernel_rfl) ?_ (Or.inl ⟨?_, ?_⟩) hHeld ?_
            rotate_left 2
            · simp only [List.getElem?_toArray, List.getElem?_cons_zero, List.getElem?_cons_succ]; with_reducible rfl
            · exact fun _ _ _ h => h
            · rfl
            · intro wS hSw; (try dsimp only at hSw); go_simp <;> with_reducible rfl
            simp only [put_lit, List.set]
            refine wpAnyH_take (i := 19) (oi := ?_) (v := ?_) ?_ (by kernel_rfl) (by kernel_rfl) (by kernel_rfl) ?_ (Or.inl ⟨?_, ?_⟩) hHeld ?_
            rotate_left 2
            · simp only [List.getElem?_toArray, List.getElem?_cons_zero, List.getElem?_cons_succ]; with_reducible rfl
            · exact fun _ _ _ h => h
            · rfl
            · intro wS hSw; (try dsimp only at hSw); go_simp <;> with_reducible rfl
            simp only [put_lit, List.set]
            refine wpAnyH_take (i := 20) (oi := ?_) (v := ?_) ?_ (by kernel_rfl) (by kernel_rfl) (by kernel_rfl) ?_ (Or.inl ⟨?_, ?_⟩) hHeld ?_
            rotate_left 2
            · simp only [List.getElem?_toArray, List.getElem?_cons_zero, List.getElem?_cons_succ]; with_reducible rfl
            · exact fun _ _ _ h => h
            · rfl
            · intro wS hSw; (try dsimp only at hSw); go_simp <;> with_reducible rfl
            simp only [put_lit, List.set]
            refine wpAnyH_take (i := 21) (oi := ?_) (v := ?_) ?_ (by kernel_rfl) (by kernel_rfl) (by kernel_rfl) ?_ (Or.inl ⟨?_, ?_⟩) hHeld ?_
            rotate_left 2
            · simp only [List.getElem?_toArray, List.getElem?_cons_zero, List.getElem?_cons_succ]; with_reducible rfl
            · exact fun _ _ _ h => h
            · rfl
            · intro wS hSw; (try dsimp only at hSw); go_simp <;> with_reducible rfl
            simp only [put_lit, List.set]
            refine wpAnyH_take (i := 22) (oi := ?_) (v := ?_) ?_ (by kernel_rfl) (by kernel_rfl) (by kernel_rfl) ?_ (Or.inl ⟨?_, ?_⟩) hHeld ?_
            rotate_left 2
            · simp only [List.getElem?_toArray, List.getElem?_cons_zero, List.getElem?_cons_succ]; with_reducible rfl
            · exact fun _ _ _ h => h
            · rfl
            · intro wS hSw; (try dsimp only at hSw); go_simp <;> with_reducible rfl
            simp only [put_lit, List.set]
            refine wpAnyH_take (i := 23) (oi := ?_) (v := ?_) ?_ (by kernel_rfl) (by kernel_rfl) (by kernel_rfl) ?_ (Or.inl ⟨?_, ?_⟩) hHeld ?_
            rotate_left 2
            · simp only [List.getElem?_toArray, List.getElem?_cons_zero, List.getElem?_cons_succ]; with_reducible rfl
            · exact fun _ _ _ h => h
            · rfl
            · intro wS hSw; (try dsimp only at hSw); go_simp <;> with_reducible rfl
            simp only [put_lit, List.set]
            refine wpAnyH_take (i := 24) (oi := ?_) (v := ?_) ?_ (by kernel_rfl) (by kernel_rfl) (by kernel_rfl) ?_ (Or.inl ⟨?_, ?_⟩) hHeld ?_
            rotate_left 2
            · simp only [List.getElem?_toArray, List.getElem?_cons_zero, List.getElem?_cons_succ]; with_reducible rfl
            · exact fun _ _ _ h => h
            · rfl
            · intro wS hSw; (try dsimp only at hSw); go_simp <;> with_reducible rfl
            simp only [put_lit, List.set]
            refine wpAnyH_take (i := 25) (oi := ?_) (v := ?_) ?_ (by kernel_rfl) (by kernel_rfl) (by kernel_rfl) ?_ (Or.inl ⟨?_, ?_⟩) hHeld ?_
            rotate_left 2
            · simp only [List.getElem?_toArray, List.getElem?_cons_zero, List.getElem?_cons_succ]; with_reducible rfl
            · exact fun _ _ _ h => h
            · rfl
            · intro wS hSw; (try dsimp only at hSw); go_simp <;> with_reducible rfl
            simp only [put_lit, List.set]
            refine wpAnyH_take (i := 26) (oi := ?_) (v := ?_) ?_ (by kernel_rfl) (by kernel_rfl) (by kernel_rfl) ?_ (Or.inl ⟨?_, ?_⟩) hHeld ?_
            rotate_left 2
            · simp only [List.getElem?_toArray, List.getElem?_cons_zero, List.getElem?_cons_succ]; with_reducible rfl
            · exact fun _ _ _ h => h
            · rfl
            · intro wS hSw; (try dsimp only at hSw); go_simp <;> with_reducible rfl
            simp only [put_lit, List.set]
            refine wpAnyH_take (i := 27) (oi := ?_) (v := ?_) ?_ (by kernel_rfl) (by kernel_rfl) (by kernel_rfl) ?_ (Or.inl ⟨?_, ?_⟩) hHeld ?_
            rotate_left 2
            · simp only [List.getElem?_toArray, List.getElem?_cons_zero, List.getElem?_cons_succ]; with_reducible rfl
            · exact fun _ _ _ h => h
            · rfl
            · intro wS hSw; (try dsimp only at hSw); go_simp <;> with_reducible rfl
            simp only [put_lit, List.set]
            refine wpAnyH_take (i := 28) (oi := ?_) (v := ?_) ?_ (by kernel_rfl) (by kernel_rfl) (by kernel_rfl) ?_ (Or.inl ⟨?_, ?_⟩) hHeld ?_
            rotate_left 2
            · simp only [List.getElem?_toArray, List.getElem?_cons_zero, List.getElem?_cons_succ]; with_reducible rfl
            · exact fun _ _ _ h => h
            · rfl
            · intro wS hSw; (try dsimp only at hSw); go_simp <;> with_reducible rfl
            simp only [put_lit, List.set]
            refine wpAnyH_ready (rs := [29]) (by kernel_rfl) (by simp) ?_
            refine AllReadyH.cons rfl (fun K hK => ?_) AllReadyH.nil
            go_simp
            go_at_call 24
            refine (CBd _ hb2.out).mono ?_
            rintro e w3 ⟨rfl, hb3⟩
            go_wp2_with fail
            refine hK.out _ _ ?_ (fun hHeld2 => ?_)
            · exact keepS.out _ hb3.out
            clear hK K hHeld
            have hHeld := hHeld2
            clear hHeld2
            (try simp only [put_lit, List.set])
            refine wpAnyH_take (i := 30) (oi := ?_) (v := ?_) ?_ (by kernel_rfl) (by kernel_rfl) (by kernel_rfl) ?_ (Or.inl ⟨?_, ?_⟩) hHeld ?_
            rotate_left 2
            · simp only [List.getElem?_toArray, List.getElem?_cons_zero, List.getElem?_cons_succ]; with_reducible rfl
            · exact fun _ _ _ h => h
            · rfl
            · intro wS hSw; (try dsimp only at hSw); go_simp <;> with_reducible rfl
            simp only [put_lit, List.set]
            refine wpAnyH_take (i := 31) (oi := ?_) (v := ?_) ?_ (by kernel_rfl) (by kernel_rfl) (by kernel_rfl) ?_ (Or.inl ⟨?_, ?_⟩) hHeld ?_
            rotate_left 2
            · simp only [List.getElem?_toArray, List.getElem?_cons_zero, List.getElem?_cons_succ]; with_reducible rfl
            · exact fun _ _ _ h => h
            · rfl
            · intro wS hSw; (try dsimp only at hSw); go_simp <;> with_reducible rfl
            simp only [put_lit, List.set]
            refine wpAnyH_done (by kernel_rfl) ?_ _
            have HBB : Hid (Below w.heap.size w w3) := below_more HB.out hb3.out HB.out.size
            clear hHeld hb2 hb3 HC HB CBd
            have hm0 : ¬ ((m : Int) < 0) := by omega
            cases q
            · clear keepS hVd CCd
              go_wp2
              all_goals first | (exfalso; simp_all; done) | (exfalso; rename_i hh; rcases hh with hh | hh <;> first | exact absurd hh hm0 | (cases hh; done)) | skip
              go_roundw
              case rel => exact ⟨m + 1, i + 1, by omega, by omega, (congrArg (Value.int IntKind.i64) (show (m : Int) = ((m + 1 : Nat) : Int) - 1 from by omega)), by go_num, HS.out, HBB.out⟩
              case measure => simp [intOf]; omega
            · clear keepS hVd CCd
              go_wp2
              all_goals first | (exfalso; simp_all; done) | (exfalso; rename_i hh; rcases hh with hh | hh <;> first | exact absurd hh hm0 | (cases hh; done)) | skip
              go_roundw
              case rel => exact ⟨i + 1, i + 1, by omega, by omega, by go_num, by go_num, HS.out, HBB.out⟩
              case measure => simp [intOf]; omega
      · have HS : Hid (BestAt (qB 1 true) l (i + 1) k) := HSK.out (by rw [hx]; unfold qB; simp [hp])
        rw [hx] at c0 c1 c2 c3 c4
        clear HSK hx
        go_upto_region 5 with fail
        go_quiet (fail)
        have HB2 : Hid (Below w.heap.size w (wr.drewN nq)) := HB.out.trans ⟨rfl, rfl, rfl, Nat.le_refl _, fun _ _ => rfl⟩
        generalize wr.drewN nq = w3 at *
        clear c0 c1 c2 c3 c4 HB HC
        go_wp2
        go_roundw
        case rel => exact ⟨k, i + 1, by omega, by omega, by go_num, by go_num, HS.out, HB2.out⟩
        case measure => simp [intOf]; omega
    · have hke : i = l.length := by omega
      subst hke
      have hnl : ¬ ((l.length : Int) < (l.length : Int)) := by omega
      by_cases hk0 : k = 0
      · subst hk0
        have HE : Hid (AddrIs (qB 1 true) l 0) := H.out.end0
        have h01 : (((0 : Nat) : Int) - 1) = -1 := by omega
        rw [h01]
        go_wp2
        go_ret
        exact ⟨0, rfl, HE.out, HB.out⟩
      · obtain ⟨hk, hE⟩ := H.out.end1 (by omega)
        have HE : Hid (AddrIs (qB 1 true) l l[k - 1].addr) := hE
        obtain ⟨m, rfl⟩ : ∃ m, k = m + 1 := ⟨k - 1, by omega⟩
        simp only [Nat.add_sub_cancel] at HE hk
        have h01 : (((m + 1 : Nat) : Int) - 1) = (m : Int) := by omega
        rw [h01]
        have hmI : (m : Int) < (l.length : Int) := by omega
        obtain ⟨b, off, rfl, c0, c1, c2, c3, c4⟩ := Cands.cells (HL.out.below HB.out) m hk
        generalize l[m].addr = A at *
        clear hE
        go_wp2
        go_ret
        exact ⟨A, rfl, HE.out, HB.out⟩
set_option maxHeartbeats 6400000 in
theorem rbest_1false (a : Option Addr) (n cap : Nat) (l : List CandZ) (w : World) (hn : n = l.length) (hL : Lies w a (cellsOf candC l)) (hl : l.length ≤ 1000000) :
    Calls Try.prog 20 #[.slice a n cap, .int .i64 1, .bool false] w (BestEnd w (qB 1 false) l) := by
  subst hn
  have HL : Hid (Lies w a (cellsOf candC l)) := hL
  have HN : Hid (l.length ≤ 1000000) := hl
  clear hL hl
  go_enter Try.func20, Try.ntmps20
  go_wp2_with fail
  go_loopw [7, 8] (fun u t wr => ∃ k i : Nat, i ≤ l.length ∧ k ≤ l.length ∧ u = .int .i64 ((k : Int) - 1) ∧ t = .int .i64 i ∧ Hid (BestAt (qB 1 false) l i k) ∧ Hid (Below w.heap.size w wr)) (fun _ t _ => l.length - (intOf t).toNat)
  case atStart => exact ⟨0, 0, by omega, by omega, rfl, rfl, .inl ⟨rfl, fun j _ h => absurd h (by omega)⟩, Below.refl _ _⟩
  case round =>
    obtain ⟨k, i, hi, hkl, rfl, rfl, H, HB⟩ := hrel
    have hln := HN.out
    by_cases hlt : i < l.length
    · have hki : (i : Int) < (l.length : Int) := by omega
      have hcs : ∀ X, Below wr.heap.size wr X → ∃ b off, a = some ⟨b, off, none⟩ ∧ Hid (∀ j (hj : j < l.length), X.cell? ⟨b, off + j * 5, none⟩ = some (.int .i64 l[j].id) ∧ X.cell? ⟨b, off + j * 5 + 1, none⟩ = some (.int .i64 l[j].addr) ∧ X.cell? ⟨b, off + j * 5 + 2, none⟩ = some (.int .i64 l[j].prio) ∧ X.cell? ⟨b, off + j * 5 + 3, none⟩ = some (.int .i64 l[j].dr) ∧ X.cell? ⟨b, off + j * 5 + 4, none⟩ = some (.int .i64 l[j].bdr)) := by
        intro X hX
        have hlies := (HL.out.below HB.out).below hX
        obtain ⟨b, off, e, -⟩ := Cands.cells hlies i hlt
        refine ⟨b, off, e, fun j hj => ?_⟩
        obtain ⟨b', off', e', h⟩ := Cands.cells hlies j hj
        rw [e] at e'
        cases e'
        exact h
      obtain ⟨b, off, rfl, hc0⟩ := hcs wr (Below.refl _ _)
      have HC : Hid (∀ X, Below wr.heap.size wr X → ∀ j (hj : j < l.length), X.cell? ⟨b, off + j * 5, none⟩ = some (.int .i64 l[j].id) ∧ X.cell? ⟨b, off + j * 5 + 1, none⟩ = some (.int .i64 l[j].addr) ∧ X.cell? ⟨b, off + j * 5 + 2, none⟩ = some (.int .i64 l[j].prio) ∧ X.cell? ⟨b, off + j * 5 + 3, none⟩ = some (.int .i64 l[j].dr) ∧ X.cell? ⟨b, off + j * 5 + 4, none⟩ = some (.int .i64 l[j].bdr)) := by
        intro X hX
        obtain ⟨b', off', e, h⟩ := hcs X hX
        cases e
        exact h.out
      clear hcs hc0
      obtain ⟨c0, c1, c2, c3, c4⟩ := HC.out wr (Below.refl _ _) i hlt
      have HSK : Hid (¬ qB 1 false l[i] = true → BestAt (qB 1 false) l (i + 1) k) := fun h => H.out.skip hlt h
      obtain ⟨x, hx⟩ : ∃ x, l[i] = x := ⟨_, rfl⟩
      by_cases hp : 0 < x.prio
      · obtain ⟨v, hv⟩ : ∃ v, claimZ x = v := ⟨_, rfl⟩
        have CC := rclaims_any x v hv
        have hv3 : v = 0 ∨ v = 1 ∨ v = 2 := by rw [← hv]; unfold claimZ; (repeat' split) <;> simp
        rcases hv3 with rfl | rfl | rfl
        · have HS : Hid (BestAt (qB 1 false) l (i + 1) k) := HSK.out (by rw [hx]; unfold qB; rw [hv]; simp)
          rw [hx] at c0 c1 c2 c3 c4
          clear hv HSK
          go_upto_region 5 with fail
          have HXX : Hid (l[i] = x) := hx
          have keepS : Hid (∀ X, Below wr.heap.size wr X → X.cell? ⟨b, off + i * 5, none⟩ = some (.int .i64 x.id) ∧ X.cell? ⟨b, off + i * 5 + 1, none⟩ = some (.int .i64 x.addr) ∧ X.cell? ⟨b, off + i * 5 + 2, none⟩ = some (.int .i64 x.prio) ∧ X.cell? ⟨b, off + i * 5 + 3, none⟩ = some (.int .i64 x.dr) ∧ X.cell? ⟨b, off + i * 5 + 4, none⟩ = some (.int .i64 x.bdr) ∧ Hid (Below wr.heap.size wr X)) := fun X hX => by
            obtain ⟨e0, e1, e2, e3, e4⟩ := HC.out X hX i hlt
            rw [HXX.out] at e0 e1 e2 e3 e4
            exact ⟨e0, e1, e2, e3, e4, hX⟩
          have hVd : Hid (Below wr.heap.size wr wr.drew) := (Below.refl _ _).drew
          have CCd : ∀ W (h : Below wr.heap.size wr W), Calls Try.prog 23 #[.agg (candA x)] W fun e w' => e = .returned (.int .i64 0) ∧ Hid (Below wr.heap.size wr w') := fun W h => (CC W).mono fun e w' ⟨h1, h2⟩ => ⟨h1, below_more h h2 h.size⟩
          clear CC hx c0 c1 c2 c3 c4
          refine wp_region_held_drew (S := (fun X => X.cell? ⟨b, off + i * 5, none⟩ = some (.int .i64 x.id) ∧ X.cell? ⟨b, off + i * 5 + 1, none⟩ = some (.int .i64 x.addr) ∧ X.cell? ⟨b, off + i * 5 + 2, none⟩ = some (.int .i64 x.prio) ∧ X.cell? ⟨b, off + i * 5 + 3, none⟩ = some (.int .i64 x.dr) ∧ X.cell? ⟨b, off + i * 5 + 4, none⟩ = some (.int .i64 x.bdr) ∧ Hid (Below wr.heap.size wr X))) (by kernel_rfl) ?_ (fun hHeld => ?_)
          · exact keepS.out _ hVd.out
          refine wpAnyH_take (i := 0) (oi := ?_) (v := ?_) ?_ (by kernel_rfl) (by kernel_rfl) (by kernel_rfl) ?_ (Or.inl ⟨?_, ?_⟩) hHeld ?_
          rotate_left 2
          · simp only [List.getElem?_toArray, List.getElem?_cons_zero]; with_reducible rfl
          · exact fun _ _ _ h => h
          · rfl
          · intro wS hSw; (try dsimp only at hSw); go_simp <;> with_reducible rfl
          simp only [put_lit, List.set]
          refine wpAnyH_take (i := 1) (oi := ?_) (v := ?_) ?_ (by kernel_rfl) (by kernel_rfl) (by kernel_rfl) ?_ (Or.inl ⟨?_, ?_⟩) hHeld ?_
          rotate_left 2
          · simp only [List.getElem?_toArray, List.getElem?_cons_zero, List.getElem?_cons_succ]; with_reducible rfl
          · exact fun _ _ _ h => h
          · rfl
          · intro wS hSw; (try dsimp only at hSw); go_simp <;> with_reducible rfl
          simp only [put_lit, List.set]
          refine wpAnyH_take (i := 2) (oi := ?_) (v := ?_) ?_ (by kernel_rfl) (by kernel_rfl) (by kernel_rfl) ?_ (Or.inl ⟨?_, ?_⟩) hHeld ?_
          rotate_left 2
          · simp only [List.getElem?_toArray, List.getElem?_cons_zero, List.getElem?_cons_succ]; with_reducible rfl
          · exact fun _ _ _ h => h
          · rfl
          · intro wS hSw; (try dsimp only at hSw); go_simp <;> with_reducible rfl
          simp only [put_lit, List.set]
          refine wpAnyH_take (i := 3) (oi := ?_) (v := ?_) ?_ (by kernel_rfl) (by kernel_rfl) (by kernel_rfl) ?_ (Or.inl ⟨?_, ?_⟩) hHeld ?_
          rotate_left 2
          · simp only [List.getElem?_toArray, List.getElem?_cons_zero, List.getElem?_cons_succ]; with_reducible rfl
          · exact fun _ _ _ h => h
          · rfl
          · intro wS hSw; (try dsimp only at hSw); go_simp <;> with_reducible rfl
          simp only [put_lit, List.set]
          refine wpAnyH_take (i := 4) (oi := ?_) (v := ?_) ?_ (by kernel_rfl) (by kernel_rfl) (by kernel_rfl) ?_ (Or.inl ⟨?_, ?_⟩) hHeld ?_
          rotate_left 2
          · simp only [List.getElem?_toArray, List.getElem?_cons_zero, List.getElem?_cons_succ]; with_reducible rfl
          · exact fun _ _ _ h => h
          · rfl
          · intro wS hSw; (try dsimp only at hSw); go_simp <;> with_reducible rfl
          simp only [put_lit, List.set]
          refine wpAnyH_take (i := 5) (oi := ?_) (v := ?_) ?_ (by kernel_rfl) (by kernel_rfl) (by kernel_rfl) ?_ (Or.inl ⟨?_, ?_⟩) hHeld ?_
          rotate_left 2
          · simp only [List.getElem?_toArray, List.getElem?_cons_zero, List.getElem?_cons_succ]; with_reducible rfl
          · exact fun _ _ _ h => h
          · rfl
          · intro wS hSw; (try dsimp only at hSw); go_simp <;> with_reducible rfl
          simp only [put_lit, List.set]
          refine wpAnyH_take (i := 6) (oi := ?_) (v := ?_) ?_ (by kernel_rfl) (by kernel_rfl) (by kernel_rfl) ?_ (Or.inl ⟨?_, ?_⟩) hHeld ?_
          rotate_left 2
          · simp only [List.getElem?_toArray, List.getElem?_cons_zero, List.getElem?_cons_succ]; with_reducible rfl
          · exact fun _ _ _ h => h
          · rfl
          · intro wS hSw; (try dsimp only at hSw); go_simp <;> with_reducible rfl
          simp only [put_lit, List.set]
          refine wpAnyH_take (i := 7) (oi := ?_) (v := ?_) ?_ (by kernel_rfl) (by kernel_rfl) (by kernel_rfl) ?_ (Or.inl ⟨?_, ?_⟩) hHeld ?_
          rotate_left 2
          · simp only [List.getElem?_toArray, List.getElem?_cons_zero, List.getElem?_cons_succ]; with_reducible rfl
          · exact fun _ _ _ h => h
          · rfl
          · intro wS hSw; (try dsimp only at hSw); go_simp <;> with_reducible rfl
          simp only [put_lit, List.set]
          refine wpAnyH_take (i := 8) (oi := ?_) (v := ?_) ?_ (by kernel_rfl) (by kernel_rfl) (by kernel_rfl) ?_ (Or.inl ⟨?_, ?_⟩) hHeld ?_
          rotate_left 2
          · simp only [List.getElem?_toArray, List.getElem?_cons_zero, List.getElem?_cons_succ]; with_reducible rfl
          · exact fun _ _ _ h => h
          · rfl
          · intro wS hSw; (try dsimp only at hSw); go_simp <;> with_reducible rfl
          simp only [put_lit, List.set]
          refine wpAnyH_take (i := 9) (oi := ?_) (v := ?_) ?_ (by kernel_rfl) (by kernel_rfl) (by kernel_rfl) ?_ (Or.inl ⟨?_, ?_⟩) hHeld ?_
          rotate_left 2
          · simp only [List.getElem?_toArray, List.getElem?_cons_zero, List.getElem?_cons_succ]; with_reducible rfl
          · exact fun _ _ _ h => h
          · rfl
          · intro wS hSw; (try dsimp only at hSw); go_simp <;> with_reducible rfl
          simp only [put_lit, List.set]
          refine wpAnyH_take (i := 10) (oi := ?_) (v := ?_) ?_ (by kernel_rfl) (by kernel_rfl) (by kernel_rfl) ?_ (Or.inl ⟨?_, ?_⟩) hHeld ?_
          rotate_left 2
          · simp only [List.getElem?_toArray, List.getElem?_cons_zero, List.getElem?_cons_succ]; with_reducible rfl
          · exact fun _ _ _ h => h
          · rfl
          · intro wS hSw; (try dsimp only at hSw); go_simp <;> with_reducible rfl
          simp only [put_lit, List.set]
          refine wpAnyH_take (i := 12) (oi := ?_) (v := ?_) ?_ (by kernel_rfl) (by kernel_rfl) (by kernel_rfl) ?_ (Or.inl ⟨?_, ?_⟩) hHeld ?_
          rotate_left 2
          · simp only [List.getElem?_toArray, List.getElem?_cons_zero, List.getElem?_cons_succ]; with_reducible rfl
          · exact fun _ _ _ h => h
          · rfl
          · intro wS hSw; (try dsimp only at hSw); go_simp <;> with_reducible rfl
          simp only [put_lit, List.set]
          refine wpAnyH_take (i := 14) (oi := ?_) (v := ?_) ?_ (by kernel_rfl) (by kernel_rfl) (by kernel_rfl) ?_ (Or.inl ⟨?_, ?_⟩) hHeld ?_
          rotate_left 2
          · simp only [List.getElem?_toArray, List.getElem?_cons_zero, List.getElem?_cons_succ]; with_reducible rfl
          · exact fun _ _ _ h => h
          · rfl
          · intro wS hSw; (try dsimp only at hSw); go_simp <;> with_reducible rfl
          simp only [put_lit, List.set]
          refine wpAnyH_ready (rs := [11]) (by kernel_rfl) (by simp) ?_
          refine AllReadyH.cons rfl (fun K hK => ?_) AllReadyH.nil
          go_simp
          go_at_call 23
          refine (CCd _ hVd.out).mono ?_
          rintro e w2 ⟨rfl, hb2⟩
          go_wp2_with fail
          refine hK.out _ _ ?_ (fun hHeld2 => ?_)
          · exact keepS.out _ hb2.out
          clear hK K hHeld
          have hHeld := hHeld2
          clear hHeld2
          (try simp only [put_lit, List.set])
          refine wpAnyH_take (i := 13) (oi := ?_) (v := ?_) ?_ (by kernel_rfl) (by kernel_rfl) (by kernel_rfl) ?_ (Or.inl ⟨?_, ?_⟩) hHeld ?_
          rotate_left 2
          · simp only [List.getElem?_toArray, List.getElem?_cons_zero, List.getElem?_cons_succ]; with_reducible rfl
          · exact fun _ _ _ h => h
          · rfl
          · intro wS hSw; (try dsimp only at hSw); go_simp <;> with_reducible rfl
          simp only [put_lit, List.set]
          refine wpAnyH_take (i := 15) (oi := ?_) (v := ?_) ?_ (by kernel_rfl) (by kernel_rfl) (by kernel_rfl) ?_ (Or.inl ⟨?_, ?_⟩) hHeld ?_
          rotate_left 2
          · simp only [List.getElem?_toArray, List.getElem?_cons_zero, List.getElem?_cons_succ]; with_reducible rfl
          · exact fun _ _ _ h => h
          · rfl
          · intro wS hSw; (try dsimp only at hSw); go_simp <;> with_reducible rfl
          simp only [put_lit, List.set]
          refine wpAnyH_take (i := 16) (oi := ?_) (v := ?_) ?_ (by kernel_rfl) (by kernel_rfl) (by kernel_rfl) ?_ (Or.inl ⟨?_, ?_⟩) hHeld ?_
          rotate_left 2
          · simp only [List.getElem?_toArray, List.getElem?_cons_zero, List.getElem?_cons_succ]; with_reducible rfl
          · exact fun _ _ _ h => h
          · rfl
          · intro wS hSw; (try dsimp only at hSw); go_simp <;> with_reducible rfl
          simp only [put_lit, List.set]
          refine wpAnyH_take (i := 17) (oi := ?_) (v := ?_) ?_ (by kernel_rfl) (by kernel_rfl) (by kernel_rfl) ?_ (Or.inl ⟨?_, ?_⟩) hHeld ?_
          rotate_left 2
          · simp only [List.getElem?_toArray, List.getElem?_cons_zero, List.getElem?_cons_succ]; with_reducible rfl
          · exact fun _ _ _ h => h
          · rfl
          · intro wS hSw; (try dsimp only at hSw); go_simp <;> with_reducible rfl
          simp only [put_lit, List.set]
          refine wpAnyH_take (i := 18) (oi := ?_) (v := undef) ?_ (by kernel_rfl) (by kernel_rfl) (by kernel_rfl) ?_ (Or.inr ⟨?_, rfl⟩) hHeld ?_
          rotate_left
          · simp only [List.getElem?_toArray, List.getElem?_cons_zero, List.getElem?_cons_succ]; with_reducible rfl
          · exact fun _ _ _ h => h
          · rfl
          simp only [put_lit, List.set]
          refine wpAnyH_take (i := 19) (oi := ?_) (v := undef) ?_ (by kernel_rfl) (by kernel_rfl) (by kernel_rfl) ?_ (Or.inr ⟨?_, rfl⟩) hHeld ?_
          rotate_left
          · simp only [List.getElem?_toArray, List.getElem?_cons_zero, List.getElem?_cons_succ]; with_reducible rfl
          · exact fun _ _ _ h => h
          · rfl
          simp only [put_lit, List.set]
          refine wpAnyH_take (i := 20) (oi := ?_) (v := undef) ?_ (by kernel_rfl) (by kernel_rfl) (by kernel_rfl) ?_ (Or.inr ⟨?_, rfl⟩) hHeld ?_
          rotate_left
          · simp only [List.getElem?_toArray, List.getElem?_cons_zero, List.getElem?_cons_succ]; with_reducible rfl
          · exact fun _ _ _ h => h
          · rfl
          simp only [put_lit, List.set]
          refine wpAnyH_take (i := 21) (oi := ?_) (v := undef) ?_ (by kernel_rfl) (by kernel_rfl) (by kernel_rfl) ?_ (Or.inr ⟨?_, rfl⟩) hHeld ?_
          rotate_left
          · simp only [List.getElem?_toArray, List.getElem?_cons_zero, List.getElem?_cons_succ]; with_reducible rfl
          · exact fun _ _ _ h => h
          · rfl
          simp only [put_lit, List.set]
          refine wpAnyH_take (i := 22) (oi := ?_) (v := undef) ?_ (by kernel_rfl) (by kernel_rfl) (by kernel_rfl) ?_ (Or.inr ⟨?_, rfl⟩) hHeld ?_
          rotate_left
          · simp only [List.getElem?_toArray, List.getElem?_cons_zero, List.getElem?_cons_succ]; with_reducible rfl
          · exact fun _ _ _ h => h
          · rfl
          simp only [put_lit, List.set]
          refine wpAnyH_take (i := 23) (oi := ?_) (v := undef) ?_ (by kernel_rfl) (by kernel_rfl) (by kernel_rfl) ?_ (Or.inr ⟨?_, rfl⟩) hHeld ?_
          rotate_left
          · simp only [List.getElem?_toArray, List.getElem?_cons_zero, List.getElem?_cons_succ]; with_reducible rfl
          · exact fun _ _ _ h => h
          · rfl
          simp only [put_lit, List.set]
          refine wpAnyH_take (i := 24) (oi := ?_) (v := undef) ?_ (by kernel_rfl) (by kernel_rfl) (by kernel_rfl) ?_ (Or.inr ⟨?_, rfl⟩) hHeld ?_
          rotate_left
          · simp only [List.getElem?_toArray, List.getElem?_cons_zero, List.getElem?_cons_succ]; with_reducible rfl
          · exact fun _ _ _ h => h
          · rfl
          simp only [put_lit, List.set]
          refine wpAnyH_take (i := 25) (oi := ?_) (v := undef) ?_ (by kernel_rfl) (by kernel_rfl) (by kernel_rfl) ?_ (Or.inr ⟨?_, rfl⟩) hHeld ?_
          rotate_left
          · simp only [List.getElem?_toArray, List.getElem?_cons_zero, List.getElem?_cons_succ]; with_reducible rfl
          · exact fun _ _ _ h => h
          · rfl
          simp only [put_lit, List.set]
          refine wpAnyH_take (i := 26) (oi := ?_) (v := undef) ?_ (by kernel_rfl) (by kernel_rfl) (by kernel_rfl) ?_ (Or.inr ⟨?_, rfl⟩) hHeld ?_
          rotate_left
          · simp only [List.getElem?_toArray, List.getElem?_cons_zero, List.getElem?_cons_succ]; with_reducible rfl
          · exact fun _ _ _ h => h
          · rfl
          simp only [put_lit, List.set]
          refine wpAnyH_take (i := 27) (oi := ?_) (v := undef) ?_ (by kernel_rfl) (by kernel_rfl) (by kernel_rfl) ?_ (Or.inr ⟨?_, rfl⟩) hHeld ?_
          rotate_left
          · simp only [List.getElem?_toArray, List.getElem?_cons_zero, List.getElem?_cons_succ]; with_reducible rfl
          · exact fun _ _ _ h => h
          · rfl
          simp only [put_lit, List.set]
          refine wpAnyH_take (i := 28) (oi := ?_) (v := undef) ?_ (by kernel_rfl) (by kernel_rfl) (by kernel_rfl) ?_ (Or.inr ⟨?_, rfl⟩) hHeld ?_
          rotate_left
          · simp only [List.getElem?_toArray, List.getElem?_cons_zero, List.getElem?_cons_succ]; with_reducible rfl
          · exact fun _ _ _ h => h
          · rfl
          simp only [put_lit, List.set]
          refine wpAnyH_take (i := 29) (oi := ?_) (v := undef) ?_ (by kernel_rfl) (by kernel_rfl) (by kernel_rfl) ?_ (Or.inr ⟨?_, rfl⟩) hHeld ?_
          rotate_left
          · simp only [List.getElem?_toArray, List.getElem?_cons_zero, List.getElem?_cons_succ]; with_reducible rfl
          · exact fun _ _ _ h => h
          · rfl
          simp only [put_lit, List.set]
          refine wpAnyH_take (i := 30) (oi := ?_) (v := undef) ?_ (by kernel_rfl) (by kernel_rfl) (by kernel_rfl) ?_ (Or.inr ⟨?_, rfl⟩) hHeld ?_
          rotate_left
          · simp only [List.getElem?_toArray, List.getElem?_cons_zero, List.getElem?_cons_succ]; with_reducible rfl
          · exact fun _ _ _ h => h
          · rfl
          simp only [put_lit, List.set]
          refine wpAnyH_take (i := 31) (oi := ?_) (v := ?_) ?_ (by kernel_rfl) (by kernel_rfl) (by kernel_rfl) ?_ (Or.inl ⟨?_, ?_⟩) hHeld ?_
          rotate_left 2
          · simp only [List.getElem?_toArray, List.getElem?_cons_zero, List.getElem?_cons_succ]; with_reducible rfl
          · exact fun _ _ _ h => h
          · rfl
          · intro wS hSw; (try dsimp only at hSw); go_simp <;> with_reducible rfl
          simp only [put_lit, List.set]
          refine wpAnyH_done (by kernel_rfl) ?_ _
          have HBB : Hid (Below w.heap.size w w2) := below_more HB.out hb2.out HB.out.size
          clear hHeld hb2 HC HB
          clear keepS hVd CCd
          go_wp2
          go_roundw
          case rel => exact ⟨k, i + 1, by omega, by omega, by go_num, by go_num, HS.out, HBB.out⟩
          case measure => simp [intOf]; omega
        · have hpq : qB 1 false l[i] = true := by rw [hx]; unfold qB; rw [hv]; simp [hp]
          rw [hx] at c0 c1 c2 c3 c4
          clear hv HSK
          by_cases hk0 : k = 0
          · subst hk0
            have HS : Hid (BestAt (qB 1 false) l (i + 1) (i + 1)) := H.out.take0 hlt hpq
            have h01 : (((0 : Nat) : Int) - 1) = -1 := by omega
            rw [h01]
            clear h01 hpq
            go_upto_region 5 with fail
            have HXX : Hid (l[i] = x) := hx
            have keepS : Hid (∀ X, Below wr.heap.size wr X → X.cell? ⟨b, off + i * 5, none⟩ = some (.int .i64 x.id) ∧ X.cell? ⟨b, off + i * 5 + 1, none⟩ = some (.int .i64 x.addr) ∧ X.cell? ⟨b, off + i * 5 + 2, none⟩ = some (.int .i64 x.prio) ∧ X.cell? ⟨b, off + i * 5 + 3, none⟩ = some (.int .i64 x.dr) ∧ X.cell? ⟨b, off + i * 5 + 4, none⟩ = some (.int .i64 x.bdr) ∧ Hid (Below wr.heap.size wr X)) := fun X hX => by
              obtain ⟨e0, e1, e2, e3, e4⟩ := HC.out X hX i hlt
              rw [HXX.out] at e0 e1 e2 e3 e4
              exact ⟨e0, e1, e2, e3, e4, hX⟩
            have hVd : Hid (Below wr.heap.size wr wr.drew) := (Below.refl _ _).drew
            have CCd : ∀ W (h : Below wr.heap.size wr W), Calls Try.prog 23 #[.agg (candA x)] W fun e w' => e = .returned (.int .i64 1) ∧ Hid (Below wr.heap.size wr w') := fun W h => (CC W).mono fun e w' ⟨h1, h2⟩ => ⟨h1, below_more h h2 h.size⟩
            clear CC hx c0 c1 c2 c3 c4
            refine wp_region_held_drew (S := (fun X => X.cell? ⟨b, off + i * 5, none⟩ = some (.int .i64 x.id) ∧ X.cell? ⟨b, off + i * 5 + 1, none⟩ = some (.int .i64 x.addr) ∧ X.cell? ⟨b, off + i * 5 + 2, none⟩ = some (.int .i64 x.prio) ∧ X.cell? ⟨b, off + i * 5 + 3, none⟩ = some (.int .i64 x.dr) ∧ X.cell? ⟨b, off + i * 5 + 4, none⟩ = some (.int .i64 x.bdr) ∧ Hid (Below wr.heap.size wr X))) (by kernel_rfl) ?_ (fun hHeld => ?_)
            · exact keepS.out _ hVd.out
            refine wpAnyH_take (i := 0) (oi := ?_) (v := ?_) ?_ (by kernel_rfl) (by kernel_rfl) (by kernel_rfl) ?_ (Or.inl ⟨?_, ?_⟩) hHeld ?_
            rotate_left 2
            · simp only [List.getElem?_toArray, List.getElem?_cons_zero]; with_reducible rfl
            · exact fun _ _ _ h => h
            · rfl
            · intro wS hSw; (try dsimp only at hSw); go_simp <;> with_reducible rfl
            simp only [put_lit, List.set]
            refine wpAnyH_take (i := 1) (oi := ?_) (v := ?_) ?_ (by kernel_rfl) (by kernel_rfl) (by kernel_rfl) ?_ (Or.inl ⟨?_, ?_⟩) hHeld ?_
            rotate_left 2
            · simp only [List.getElem?_toArray, List.getElem?_cons_zero, List.getElem?_cons_succ]; with_reducible rfl
            · exact fun _ _ _ h => h
            · rfl
            · intro wS hSw; (try dsimp only at hSw); go_simp <;> with_reducible rfl
            simp only [put_lit, List.set]
            refine wpAnyH_take (i := 2) (oi := ?_) (v := ?_) ?_ (by kernel_rfl) (by kernel_rfl) (by kernel_rfl) ?_ (Or.inl ⟨?_, ?_⟩) hHeld ?_
            rotate_left 2
            · simp only [List.getElem?_toArray, List.getElem?_cons_zero, List.getElem?_cons_succ]; with_reducible rfl
            · exact fun _ _ _ h => h
            · rfl
            · intro wS hSw; (try dsimp only at hSw); go_simp <;> with_reducible rfl
            simp only [put_lit, List.set]
            refine wpAnyH_take (i := 3) (oi := ?_) (v := ?_) ?_ (by kernel_rfl) (by kernel_rfl) (by kernel_rfl) ?_ (Or.inl ⟨?_, ?_⟩) hHeld ?_
            rotate_left 2
            · simp only [List.getElem?_toArray, List.getElem?_cons_zero, List.getElem?_cons_succ]; with_reducible rfl
            · exact fun _ _ _ h => h
            · rfl
            · intro wS hSw; (try dsimp only at hSw); go_simp <;> with_reducible rfl
            simp only [put_lit, List.set]
            refine wpAnyH_take (i := 4) (oi := ?_) (v := ?_) ?_ (by kernel_rfl) (by kernel_rfl) (by kernel_rfl) ?_ (Or.inl ⟨?_, ?_⟩) hHeld ?_
            rotate_left 2
            · simp only [List.getElem?_toArray, List.getElem?_cons_zero, List.getElem?_cons_succ]; with_reducible rfl
            · exact fun _ _ _ h => h
            · rfl
            · intro wS hSw; (try dsimp only at hSw); go_simp <;> with_reducible rfl
            simp only [put_lit, List.set]
            refine wpAnyH_take (i := 5) (oi := ?_) (v := ?_) ?_ (by kernel_rfl) (by kernel_rfl) (by kernel_rfl) ?_ (Or.inl ⟨?_, ?_⟩) hHeld ?_
            rotate_left 2
            · simp only [List.getElem?_toArray, List.getElem?_cons_zero, List.getElem?_cons_succ]; with_reducible rfl
            · exact fun _ _ _ h => h
            · rfl
            · intro wS hSw; (try dsimp only at hSw); go_simp <;> with_reducible rfl
            simp only [put_lit, List.set]
            refine wpAnyH_take (i := 6) (oi := ?_) (v := ?_) ?_ (by kernel_rfl) (by kernel_rfl) (by kernel_rfl) ?_ (Or.inl ⟨?_, ?_⟩) hHeld ?_
            rotate_left 2
            · simp only [List.getElem?_toArray, List.getElem?_cons_zero, List.getElem?_cons_succ]; with_reducible rfl
            · exact fun _ _ _ h => h
            · rfl
            · intro wS hSw; (try dsimp only at hSw); go_simp <;> with_reducible rfl
            simp only [put_lit, List.set]
            refine wpAnyH_take (i := 7) (oi := ?_) (v := ?_) ?_ (by kernel_rfl) (by kernel_rfl) (by kernel_rfl) ?_ (Or.inl ⟨?_, ?_⟩) hHeld ?_
            rotate_left 2
            · simp only [List.getElem?_toArray, List.getElem?_cons_zero, List.getElem?_cons_succ]; with_reducible rfl
            · exact fun _ _ _ h => h
            · rfl
            · intro wS hSw; (try dsimp only at hSw); go_simp <;> with_reducible rfl
            simp only [put_lit, List.set]
            refine wpAnyH_take (i := 8) (oi := ?_) (v := ?_) ?_ (by kernel_rfl) (by kernel_rfl) (by kernel_rfl) ?_ (Or.inl ⟨?_, ?_⟩) hHeld ?_
            rotate_left 2
            · simp only [List.getElem?_toArray, List.getElem?_cons_zero, List.getElem?_cons_succ]; with_reducible rfl
            · exact fun _ _ _ h => h
            · rfl
            · intro wS hSw; (try dsimp only at hSw); go_simp <;> with_reducible rfl
            simp only [put_lit, List.set]
            refine wpAnyH_take (i := 9) (oi := ?_) (v := ?_) ?_ (by kernel_rfl) (by kernel_rfl) (by kernel_rfl) ?_ (Or.inl ⟨?_, ?_⟩) hHeld ?_
            rotate_left 2
            · simp only [List.getElem?_toArray, List.getElem?_cons_zero, List.getElem?_cons_succ]; with_reducible rfl
            · exact fun _ _ _ h => h
            · rfl
            · intro wS hSw; (try dsimp only at hSw); go_simp <;> with_reducible rfl
            simp only [put_lit, List.set]
            refine wpAnyH_take (i := 10) (oi := ?_) (v := ?_) ?_ (by kernel_rfl) (by kernel_rfl) (by kernel_rfl) ?_ (Or.inl ⟨?_, ?_⟩) hHeld ?_
            rotate_left 2
            · simp only [List.getElem?_toArray, List.getElem?_cons_zero, List.getElem?_cons_succ]; with_reducible rfl
            · exact fun _ _ _ h => h
            · rfl
            · intro wS hSw; (try dsimp only at hSw); go_simp <;> with_reducible rfl
            simp only [put_lit, List.set]
            refine wpAnyH_take (i := 12) (oi := ?_) (v := ?_) ?_ (by kernel_rfl) (by kernel_rfl) (by kernel_rfl) ?_ (Or.inl ⟨?_, ?_⟩) hHeld ?_
            rotate_left 2
            · simp only [List.getElem?_toArray, List.getElem?_cons_zero, List.getElem?_cons_succ]; with_reducible rfl
            · exact fun _ _ _ h => h
            · rfl
            · intro wS hSw; (try dsimp only at hSw); go_simp <;> with_reducible rfl
            simp only [put_lit, List.set]
            refine wpAnyH_take (i := 14) (oi := ?_) (v := ?_) ?_ (by kernel_rfl) (by kernel_rfl) (by kernel_rfl) ?_ (Or.inl ⟨?_, ?_⟩) hHeld ?_
            rotate_left 2
            · simp only [List.getElem?_toArray, List.getElem?_cons_zero, List.getElem?_cons_succ]; with_reducible rfl
            · exact fun _ _ _ h => h
            · rfl
            · intro wS hSw; (try dsimp only at hSw); go_simp <;> with_reducible rfl
            simp only [put_lit, List.set]
            refine wpAnyH_ready (rs := [11]) (by kernel_rfl) (by simp) ?_
            refine AllReadyH.cons rfl (fun K hK => ?_) AllReadyH.nil
            go_simp
            go_at_call 23
            refine (CCd _ hVd.out).mono ?_
            rintro e w2 ⟨rfl, hb2⟩
            go_wp2_with fail
            refine hK.out _ _ ?_ (fun hHeld2 => ?_)
            · exact keepS.out _ hb2.out
            clear hK K hHeld
            have hHeld := hHeld2
            clear hHeld2
            (try simp only [put_lit, List.set])
            refine wpAnyH_take (i := 13) (oi := ?_) (v := ?_) ?_ (by kernel_rfl) (by kernel_rfl) (by kernel_rfl) ?_ (Or.inl ⟨?_, ?_⟩) hHeld ?_
            rotate_left 2
            · simp only [List.getElem?_toArray, List.getElem?_cons_zero, List.getElem?_cons_succ]; with_reducible rfl
            · exact fun _ _ _ h => h
            · rfl
            · intro wS hSw; (try dsimp only at hSw); go_simp <;> with_reducible rfl
            simp only [put_lit, List.set]
            refine wpAnyH_take (i := 15) (oi := ?_) (v := ?_) ?_ (by kernel_rfl) (by kernel_rfl) (by kernel_rfl) ?_ (Or.inl ⟨?_, ?_⟩) hHeld ?_
            rotate_left 2
            · simp only [List.getElem?_toArray, List.getElem?_cons_zero, List.getElem?_cons_succ]; with_reducible rfl
            · exact fun _ _ _ h => h
            · rfl
            · intro wS hSw; (try dsimp only at hSw); go_simp <;> with_reducible rfl
            simp only [put_lit, List.set]
            refine wpAnyH_take (i := 16) (oi := ?_) (v := ?_) ?_ (by kernel_rfl) (by kernel_rfl) (by kernel_rfl) ?_ (Or.inl ⟨?_, ?_⟩) hHeld ?_
            rotate_left 2
            · simp only [List.getElem?_toArray, List.getElem?_cons_zero, List.getElem?_cons_succ]; with_reducible rfl
            · exact fun _ _ _ h => h
            · rfl
            · intro wS hSw; (try dsimp only at hSw); go_simp <;> with_reducible rfl
            simp only [put_lit, List.set]
            refine wpAnyH_take (i := 17) (oi := ?_) (v := ?_) ?_ (by kernel_rfl) (by kernel_rfl) (by kernel_rfl) ?_ (Or.inl ⟨?_, ?_⟩) hHeld ?_
            rotate_left 2
            · simp only [List.getElem?_toArray, List.getElem?_cons_zero, List.getElem?_cons_succ]; with_reducible rfl
            · exact fun _ _ _ h => h
            · rfl
            · intro wS hSw; (try dsimp only at hSw); go_simp <;> with_reducible rfl
            simp only [put_lit, List.set]
            refine wpAnyH_take (i := 18) (oi := ?_) (v := ?_) ?_ (by kernel_rfl) (by kernel_rfl) (by kernel_rfl) ?_ (Or.inl ⟨?_, ?_⟩) hHeld ?_
            rotate_left 2
            · simp only [List.getElem?_toArray, List.getElem?_cons_zero, List.getElem?_cons_succ]; with_reducible rfl
            · exact fun _ _ _ h => h
            · rfl
            · intro wS hSw; (try dsimp only at hSw); go_simp <;> with_reducible rfl
            simp only [put_lit, List.set]
            refine wpAnyH_take (i := 19) (oi := ?_) (v := ?_) ?_ (by kernel_rfl) (by kernel_rfl) (by kernel_rfl) ?_ (Or.inl ⟨?_, ?_⟩) hHeld ?_
            rotate_left 2
            · simp only [List.getElem?_toArray, List.getElem?_cons_zero, List.getElem?_cons_succ]; with_reducible rfl
            · exact fun _ _ _ h => h
            · rfl
            · intro wS hSw; (try dsimp only at hSw); go_simp <;> with_reducible rfl
            simp only [put_lit, List.set]
            refine wpAnyH_take (i := 20) (oi := ?_) (v := ?_) ?_ (by kernel_rfl) (by kernel_rfl) (by kernel_rfl) ?_ (Or.inl ⟨?_, ?_⟩) hHeld ?_
            rotate_left 2
            · simp only [List.getElem?_toArray, List.getElem?_cons_zero, List.getElem?_cons_succ]; with_reducible rfl
            · exact fun _ _ _ h => h
            · rfl
            · intro wS hSw; (try dsimp only at hSw); go_simp <;> with_reducible rfl
            simp only [put_lit, List.set]
            refine wpAnyH_take (i := 21) (oi := ?_) (v := undef) ?_ (by kernel_rfl) (by kernel_rfl) (by kernel_rfl) ?_ (Or.inr ⟨?_, rfl⟩) hHeld ?_
            rotate_left
            · simp only [List.getElem?_toArray, List.getElem?_cons_zero, List.getElem?_cons_succ]; with_reducible rfl
            · exact fun _ _ _ h => h
            · rfl
            simp only [put_lit, List.set]
            refine wpAnyH_take (i := 22) (oi := ?_) (v := undef) ?_ (by kernel_rfl) (by kernel_rfl) (by kernel_rfl) ?_ (Or.inr ⟨?_, rfl⟩) hHeld ?_
            rotate_left
            · simp only [List.getElem?_toArray, List.getElem?_cons_zero, List.getElem?_cons_succ]; with_reducible rfl
            · exact fun _ _ _ h => h
            · rfl
            simp only [put_lit, List.set]
            refine wpAnyH_take (i := 23) (oi := ?_) (v := undef) ?_ (by kernel_rfl) (by kernel_rfl) (by kernel_rfl) ?_ (Or.inr ⟨?_, rfl⟩) hHeld ?_
            rotate_left
            · simp only [List.getElem?_toArray, List.getElem?_cons_zero, List.getElem?_cons_succ]; with_reducible rfl
            · exact fun _ _ _ h => h
            · rfl
            simp only [put_lit, List.set]
            refine wpAnyH_take (i := 24) (oi := ?_) (v := undef) ?_ (by kernel_rfl) (by kernel_rfl) (by kernel_rfl) ?_ (Or.inr ⟨?_, rfl⟩) hHeld ?_
            rotate_left
            · simp only [List.getElem?_toArray, List.getElem?_cons_zero, List.getElem?_cons_succ]; with_reducible rfl
            · exact fun _ _ _ h => h
            · rfl
            simp only [put_lit, List.set]
            refine wpAnyH_take (i := 25) (oi := ?_) (v := undef) ?_ (by kernel_rfl) (by kernel_rfl) (by kernel_rfl) ?_ (Or.inr ⟨?_, rfl⟩) hHeld ?_
            rotate_left
            · simp only [List.getElem?_toArray, List.getElem?_cons_zero, List.getElem?_cons_succ]; with_reducible rfl
            · exact fun _ _ _ h => h
            · rfl
            simp only [put_lit, List.set]
            refine wpAnyH_take (i := 26) (oi := ?_) (v := undef) ?_ (by kernel_rfl) (by kernel_rfl) (by kernel_rfl) ?_ (Or.inr ⟨?_, rfl⟩) hHeld ?_
            rotate_left
            · simp only [List.getElem?_toArray, List.getElem?_cons_zero, List.getElem?_cons_succ]; with_reducible rfl
            · exact fun _ _ _ h => h
            · rfl
            simp only [put_lit, List.set]
            refine wpAnyH_take (i := 27) (oi := ?_) (v := undef) ?_ (by kernel_rfl) (by kernel_rfl) (by kernel_rfl) ?_ (Or.inr ⟨?_, rfl⟩) hHeld ?_
            rotate_left
            · simp only [List.getElem?_toArray, List.getElem?_cons_zero, List.getElem?_cons_succ]; with_reducible rfl
            · exact fun _ _ _ h => h
            · rfl
            simp only [put_lit, List.set]
            refine wpAnyH_take (i := 28) (oi := ?_) (v := undef) ?_ (by kernel_rfl) (by kernel_rfl) (by kernel_rfl) ?_ (Or.inr ⟨?_, rfl⟩) hHeld ?_
            rotate_left
            · simp only [List.getElem?_toArray, List.getElem?_cons_zero, List.getElem?_cons_succ]; with_reducible rfl
            · exact fun _ _ _ h => h
            · rfl
            simp only [put_lit, List.set]
            refine wpAnyH_take (i := 29) (oi := ?_) (v := undef) ?_ (by kernel_rfl) (by kernel_rfl) (by kernel_rfl) ?_ (Or.inr ⟨?_, rfl⟩) hHeld ?_
            rotate_left
            · simp only [List.getElem?_toArray, List.getElem?_cons_zero, List.getElem?_cons_succ]; with_reducible rfl
            · exact fun _ _ _ h => h
            · rfl
            simp only [put_lit, List.set]
            refine wpAnyH_take (i := 30) (oi := ?_) (v := ?_) ?_ (by kernel_rfl) (by kernel_rfl) (by kernel_rfl) ?_ (Or.inl ⟨?_, ?_⟩) hHeld ?_
            rotate_left 2
            · simp only [List.getElem?_toArray, List.getElem?_cons_zero, List.getElem?_cons_succ]; with_reducible rfl
            · exact fun _ _ _ h => h
            · rfl
            · intro wS hSw; (try dsimp only at hSw); go_simp <;> with_reducible rfl
            simp only [put_lit, List.set]
            refine wpAnyH_take (i := 31) (oi := ?_) (v := ?_) ?_ (by kernel_rfl) (by kernel_rfl) (by kernel_rfl) ?_ (Or.inl ⟨?_, ?_⟩) hHeld ?_
            rotate_left 2
            · simp only [List.getElem?_toArray, List.getElem?_cons_zero, List.getElem?_cons_succ]; with_reducible rfl
            · exact fun _ _ _ h => h
            · rfl
            · intro wS hSw; (try dsimp only at hSw); go_simp <;> with_reducible rfl
            simp only [put_lit, List.set]
            refine wpAnyH_done (by kernel_rfl) ?_ _
            have HBB : Hid (Below w.heap.size w w2) := below_more HB.out hb2.out HB.out.size
            clear hHeld hb2 HC HB
            clear keepS hVd CCd
            go_wp2
            go_roundw
            case rel => exact ⟨i + 1, i + 1, by omega, by omega, by go_num, by go_num, HS.out, HBB.out⟩
            case measure => simp [intOf]; omega
          · obtain ⟨m, rfl⟩ : ∃ m, k = m + 1 := ⟨k - 1, by omega⟩
            have hml : m < l.length := by omega
            have h01 : (((m + 1 : Nat) : Int) - 1) = (m : Int) := by omega
            rw [h01]
            clear h01
            have hmI : (m : Int) < (l.length : Int) := by omega
            have HT1 : Hid (LeC l[m] l[i] → BestAt (qB 1 false) l (i + 1) (i + 1)) := fun h => H.out.take1 hlt hpq (by simpa using hml) (by simpa using h) (by omega)
            have HT2 : Hid (LeC l[i] l[m] → BestAt (qB 1 false) l (i + 1) (m + 1)) := fun h => H.out.keep hlt (by simpa using hml) (by simpa using h) (by omega)
            obtain ⟨y, hy⟩ : ∃ y, l[m] = y := ⟨_, rfl⟩
            rw [hx, hy] at HT1 HT2
            have HYY : Hid (l[m] = y) := hy
            obtain ⟨d0, d1, d2, d3, d4⟩ := HC.out wr (Below.refl _ _) m hml
            rw [hy] at d0 d1 d2 d3 d4
            have HTQ : Hid (∀ q, bettB x y = q → BestAt (qB 1 false) l (i + 1) (if q then i + 1 else m + 1)) := fun q hq => by
              cases q
              · exact HT2.out (bett_no hq)
              · exact HT1.out (bett_yes hq)
            have CB := rbetter_any x y
            obtain ⟨q, hq⟩ : ∃ q, bettB x y = q := ⟨_, rfl⟩
            have HS : Hid (BestAt (qB 1 false) l (i + 1) (if q then i + 1 else m + 1)) := HTQ.out q hq
            rw [hq] at CB
            clear hpq HT1 HT2 HTQ hq
            go_upto_region 5 with fail
            have HXX : Hid (l[i] = x) := hx
            have keepS : Hid (∀ X, Below wr.heap.size wr X → X.cell? ⟨b, off + i * 5, none⟩ = some (.int .i64 x.id) ∧ X.cell? ⟨b, off + i * 5 + 1, none⟩ = some (.int .i64 x.addr) ∧ X.cell? ⟨b, off + i * 5 + 2, none⟩ = some (.int .i64 x.prio) ∧ X.cell? ⟨b, off + i * 5 + 3, none⟩ = some (.int .i64 x.dr) ∧ X.cell? ⟨b, off + i * 5 + 4, none⟩ = some (.int .i64 x.bdr) ∧ X.cell? ⟨b, off + m * 5, none⟩ = some (.int .i64 y.id) ∧ X.cell? ⟨b, off + m * 5 + 1, none⟩ = some (.int .i64 y.addr) ∧ X.cell? ⟨b, off + m * 5 + 2, none⟩ = some (.int .i64 y.prio) ∧ X.cell? ⟨b, off + m * 5 + 3, none⟩ = some (.int .i64 y.dr) ∧ X.cell? ⟨b, off + m * 5 + 4, none⟩ = some (.int .i64 y.bdr) ∧ Hid (Below wr.heap.size wr X)) := fun X hX => by
              obtain ⟨e0, e1, e2, e3, e4⟩ := HC.out X hX i hlt
              rw [HXX.out] at e0 e1 e2 e3 e4
              obtain ⟨f0, f1, f2, f3, f4⟩ := HC.out X hX m hml
              rw [HYY.out] at f0 f1 f2 f3 f4
              exact ⟨e0, e1, e2, e3, e4, f0, f1, f2, f3, f4, hX⟩
            have hVd : Hid (Below wr.heap.size wr wr.drew) := (Below.refl _ _).drew
            have CCd : ∀ W (h : Below wr.heap.size wr W), Calls Try.prog 23 #[.agg (candA x)] W fun e w' => e = .returned (.int .i64 1) ∧ Hid (Below wr.heap.size wr w') := fun W h => (CC W).mono fun e w' ⟨h1, h2⟩ => ⟨h1, below_more h h2 h.size⟩
            have CBd : ∀ W (h : Below wr.heap.size wr W), Calls Try.prog 24 #[.agg (candA x), .agg (candA y)] W fun e w' => e = .returned (.bool q) ∧ Hid (Below wr.heap.size wr w') := fun W h => (CB W).mono fun e w' ⟨h1, h2⟩ => ⟨h1, below_more h h2 h.size⟩
            clear CC CB hx hy c0 c1 c2 c3 c4 d0 d1 d2 d3 d4
            refine wp_region_held_drew (S := (fun X => X.cell? ⟨b, off + i * 5, none⟩ = some (.int .i64 x.id) ∧ X.cell? ⟨b, off + i * 5 + 1, none⟩ = some (.int .i64 x.addr) ∧ X.cell? ⟨b, off + i * 5 + 2, none⟩ = some (.int .i64 x.prio) ∧ X.cell? ⟨b, off + i * 5 + 3, none⟩ = some (.int .i64 x.dr) ∧ X.cell? ⟨b, off + i * 5 + 4, none⟩ = some (.int .i64 x.bdr) ∧ X.cell? ⟨b, off + m * 5, none⟩ = some (.int .i64 y.id) ∧ X.cell? ⟨b, off + m * 5 + 1, none⟩ = some (.int .i64 y.addr) ∧ X.cell? ⟨b, off + m * 5 + 2, none⟩ = some (.int .i64 y.prio) ∧ X.cell? ⟨b, off + m * 5 + 3, none⟩ = some (.int .i64 y.dr) ∧ X.cell? ⟨b, off + m * 5 + 4, none⟩ = some (.int .i64 y.bdr) ∧ Hid (Below wr.heap.size wr X))) (by kernel_rfl) ?_ (fun hHeld => ?_)
            · exact keepS.out _ hVd.out
            refine wpAnyH_take (i := 0) (oi := ?_) (v := ?_) ?_ (by kernel_rfl) (by kernel_rfl) (by kernel_rfl) ?_ (Or.inl ⟨?_, ?_⟩) hHeld ?_
            rotate_left 2
            · simp only [List.getElem?_toArray, List.getElem?_cons_zero]; with_reducible rfl
            · exact fun _ _ _ h => h
            · rfl
            · intro wS hSw; (try dsimp only at hSw); go_simp <;> with_reducible rfl
            simp only [put_lit, List.set]
            refine wpAnyH_take (i := 1) (oi := ?_) (v := ?_) ?_ (by kernel_rfl) (by kernel_rfl) (by kernel_rfl) ?_ (Or.inl ⟨?_, ?_⟩) hHeld ?_
            rotate_left 2
            · simp only [List.getElem?_toArray, List.getElem?_cons_zero, List.getElem?_cons_succ]; with_reducible rfl
            · exact fun _ _ _ h => h
            · rfl
            · intro wS hSw; (try dsimp only at hSw); go_simp <;> with_reducible rfl
            simp only [put_lit, List.set]
            refine wpAnyH_take (i := 2) (oi := ?_) (v := ?_) ?_ (by kernel_rfl) (by kernel_rfl) (by kernel_rfl) ?_ (Or.inl ⟨?_, ?_⟩) hHeld ?_
            rotate_left 2
            · simp only [List.getElem?_toArray, List.getElem?_cons_zero, List.getElem?_cons_succ]; with_reducible rfl
            · exact fun _ _ _ h => h
            · rfl
            · intro wS hSw; (try dsimp only at hSw); go_simp <;> with_reducible rfl
            simp only [put_lit, List.set]
            refine wpAnyH_take (i := 3) (oi := ?_) (v := ?_) ?_ (by kernel_rfl) (by kernel_rfl) (by kernel_rfl) ?_ (Or.inl ⟨?_, ?_⟩) hHeld ?_
            rotate_left 2
            · simp only [List.getElem?_toArray, List.getElem?_cons_zero, List.getElem?_cons_succ]; with_reducible rfl
            · exact fun _ _ _ h => h
            · rfl
            · intro wS hSw; (try dsimp only at hSw); go_simp <;> with_reducible rfl
            simp only [put_lit, List.set]
            refine wpAnyH_take (i := 4) (oi := ?_) (v := ?_) ?_ (by kernel_rfl) (by kernel_rfl) (by kernel_rfl) ?_ (Or.inl ⟨?_, ?_⟩) hHeld ?_
            rotate_left 2
            · simp only [List.getElem?_toArray, List.getElem?_cons_zero, List.getElem?_cons_succ]; with_reducible rfl
            · exact fun _ _ _ h => h
            · rfl
            · intro wS hSw; (try dsimp only at hSw); go_simp <;> with_reducible rfl
            simp only [put_lit, List.set]
            refine wpAnyH_take (i := 5) (oi := ?_) (v := ?_) ?_ (by kernel_rfl) (by kernel_rfl) (by kernel_rfl) ?_ (Or.inl ⟨?_, ?_⟩) hHeld ?_
            rotate_left 2
            · simp only [List.getElem?_toArray, List.getElem?_cons_zero, List.getElem?_cons_succ]; with_reducible rfl
            · exact fun _ _ _ h => h
            · rfl
            · intro wS hSw; (try dsimp only at hSw); go_simp <;> with_reducible rfl
            simp only [put_lit, List.set]
            refine wpAnyH_take (i := 6) (oi := ?_) (v := ?_) ?_ (by kernel_rfl) (by kernel_rfl) (by kernel_rfl) ?_ (Or.inl ⟨?_, ?_⟩) hHeld ?_
            rotate_left 2
            · simp only [List.getElem?_toArray, List.getElem?_cons_zero, List.getElem?_cons_succ]; with_reducible rfl
            · exact fun _ _ _ h => h
            · rfl
            · intro wS hSw; (try dsimp only at hSw); go_simp <;> with_reducible rfl
            simp only [put_lit, List.set]
            refine wpAnyH_take (i := 7) (oi := ?_) (v := ?_) ?_ (by kernel_rfl) (by kernel_rfl) (by kernel_rfl) ?_ (Or.inl ⟨?_, ?_⟩) hHeld ?_
            rotate_left 2
            · simp only [List.getElem?_toArray, List.getElem?_cons_zero, List.getElem?_cons_succ]; with_reducible rfl
            · exact fun _ _ _ h => h
            · rfl
            · intro wS hSw; (try dsimp only at hSw); go_simp <;> with_reducible rfl
            simp only [put_lit, List.set]
            refine wpAnyH_take (i := 8) (oi := ?_) (v := ?_) ?_ (by kernel_rfl) (by kernel_rfl) (by kernel_rfl) ?_ (Or.inl ⟨?_, ?_⟩) hHeld ?_
            rotate_left 2
            · simp only [List.getElem?_toArray, List.getElem?_cons_zero, List.getElem?_cons_succ]; with_reducible rfl
            · exact fun _ _ _ h => h
            · rfl
            · intro wS hSw; (try dsimp only at hSw); go_simp <;> with_reducible rfl
            simp only [put_lit, List.set]
            refine wpAnyH_take (i := 9) (oi := ?_) (v := ?_) ?_ (by kernel_rfl) (by kernel_rfl) (by kernel_rfl) ?_ (Or.inl ⟨?_, ?_⟩) hHeld ?_
            rotate_left 2
            · simp only [List.getElem?_toArray, List.getElem?_cons_zero, List.getElem?_cons_succ]; with_reducible rfl
            · exact fun _ _ _ h => h
            · rfl
            · intro wS hSw; (try dsimp only at hSw); go_simp <;> with_reducible rfl
            simp only [put_lit, List.set]
            refine wpAnyH_take (i := 10) (oi := ?_) (v := ?_) ?_ (by kernel_rfl) (by kernel_rfl) (by kernel_rfl) ?_ (Or.inl ⟨?_, ?_⟩) hHeld ?_
            rotate_left 2
            · simp only [List.getElem?_toArray, List.getElem?_cons_zero, List.getElem?_cons_succ]; with_reducible rfl
            · exact fun _ _ _ h => h
            · rfl
            · intro wS hSw; (try dsimp only at hSw); go_simp <;> with_reducible rfl
            simp only [put_lit, List.set]
            refine wpAnyH_take (i := 12) (oi := ?_) (v := ?_) ?_ (by kernel_rfl) (by kernel_rfl) (by kernel_rfl) ?_ (Or.inl ⟨?_, ?_⟩) hHeld ?_
            rotate_left 2
            · simp only [List.getElem?_toArray, List.getElem?_cons_zero, List.getElem?_cons_succ]; with_reducible rfl
            · exact fun _ _ _ h => h
            · rfl
            · intro wS hSw; (try dsimp only at hSw); go_simp <;> with_reducible rfl
            simp only [put_lit, List.set]
            refine wpAnyH_take (i := 14) (oi := ?_) (v := ?_) ?_ (by kernel_rfl) (by kernel_rfl) (by kernel_rfl) ?_ (Or.inl ⟨?_, ?_⟩) hHeld ?_
            rotate_left 2
            · simp only [List.getElem?_toArray, List.getElem?_cons_zero, List.getElem?_cons_succ]; with_reducible rfl
            · exact fun _ _ _ h => h
            · rfl
            · intro wS hSw; (try dsimp only at hSw); go_simp <;> with_reducible rfl
            simp only [put_lit, List.set]
            refine wpAnyH_ready (rs := [11]) (by kernel_rfl) (by simp) ?_
            refine AllReadyH.cons rfl (fun K hK => ?_) AllReadyH.nil
            go_simp
            go_at_call 23
            refine (CCd _ hVd.out).mono ?_
            rintro e w2 ⟨rfl, hb2⟩
            go_wp2_with fail
            refine hK.out _ _ ?_ (fun hHeld2 => ?_)
            · exact keepS.out _ hb2.out
            clear hK K hHeld
            have hHeld := hHeld2
            clear hHeld2
            (try simp only [put_lit, List.set])
            refine wpAnyH_take (i := 13) (oi := ?_) (v := ?_) ?_ (by kernel_rfl) (by kernel_rfl) (by kernel_rfl) ?_ (Or.inl ⟨?_, ?_⟩) hHeld ?_
            rotate_left 2
            · simp only [List.getElem?_toArray, List.getElem?_cons_zero, List.getElem?_cons_succ]; with_reducible rfl
            · exact fun _ _ _ h => h
            · rfl
            · intro wS hSw; (try dsimp only at hSw); go_simp <;> with_reducible rfl
            simp only [put_lit, List.set]
            refine wpAnyH_take (i := 15) (oi := ?_) (v := ?_) ?_ (by kernel_rfl) (by kernel_rfl) (by kernel_rfl) ?_ (Or.inl ⟨?_, ?_⟩) hHeld ?_
            rotate_left 2
            · simp only [List.getElem?_toArray, List.getElem?_cons_zero, List.getElem?_cons_succ]; with_reducible rfl
            · exact fun _ _ _ h => h
            · rfl
            · intro wS hSw; (try dsimp only at hSw); go_simp <;> with_reducible rfl
            simp only [put_lit, List.set]
            refine wpAnyH_take (i := 16) (oi := ?_) (v := ?_) ?_ (by kernel_rfl) (by kernel_rfl) (by kernel_rfl) ?_ (Or.inl ⟨?_, ?_⟩) hHeld ?_
            rotate_left 2
            · simp only [List.getElem?_toArray, List.getElem?_cons_zero, List.getElem?_cons_succ]; with_reducible rfl
            · exact fun _ _ _ h => h
            · rfl
            · intro wS hSw; (try dsimp only at hSw); go_simp <;> with_reducible rfl
            simp only [put_lit, List.set]
            refine wpAnyH_take (i := 17) (oi := ?_) (v := ?_) ?_ (by kernel_rfl) (by kernel_rfl) (by kernel_rfl) ?_ (Or.inl ⟨?_, ?_⟩) hHeld ?_
            rotate_left 2
            · simp only [List.getElem?_toArray, List.getElem?_cons_zero, List.getElem?_cons_succ]; with_reducible rfl
            · exact fun _ _ _ h => h
            · rfl
            · intro wS hSw; (try dsimp only at hSw); go_simp <;> with_reducible rfl
            simp only [put_lit, List.set]
            refine wpAnyH_take (i := 18) (oi := ?_) (v := ?_) ?_ (by kernel_rfl) (by kernel_rfl) (by kernel_rfl) ?_ (Or.inl ⟨?_, ?_⟩) hHeld ?_
            rotate_left 2
            · simp only [List.getElem?_toArray, List.getElem?_cons_zero, List.getElem?_cons_succ]; with_reducible rfl
            · exact fun _ _ _ h => h
            · rfl
            · intro wS hSw; (try dsimp only at hSw); go_simp <;> with_reducible rfl
            simp only [put_lit, List.set]
            refine wpAnyH_take (i := 19) (oi := ?_) (v := ?_) ?_ (by kernel_rfl) (by kernel_rfl) (by kernel_rfl) ?_ (Or.inl ⟨?_, ?_⟩) hHeld ?_
            rotate_left 2
            · simp only [List.getElem?_toArray, List.getElem?_cons_zero, List.getElem?_cons_succ]; with_reducible rfl
            · exact fun _ _ _ h => h
            · rfl
            · intro wS hSw; (try dsimp only at hSw); go_simp <;> with_reducible rfl
            simp only [put_lit, List.set]
            refine wpAnyH_take (i := 20) (oi := ?_) (v := ?_) ?_ (by kernel_rfl) (by kernel_rfl) (by kernel_rfl) ?_ (Or.inl ⟨?_, ?_⟩) hHeld ?_
            rotate_left 2
            · simp only [List.getElem?_toArray, List.getElem?_cons_zero, List.getElem?_cons_succ]; with_reducible rfl
            · exact fun _ _ _ h => h
            · rfl
            · intro wS hSw; (try dsimp only at hSw); go_simp <;> with_reducible rfl
            simp only [put_lit, List.set]
            refine wpAnyH_take (i := 21) (oi := ?_) (v := ?_) ?_ (by kernel_rfl) (by kernel_rfl) (by kernel_rfl) ?_ (Or.inl ⟨?_, ?_⟩) hHeld ?_
            rotate_left 2
            · simp only [List.getElem?_toArray, List.getElem?_cons_zero, List.getElem?_cons_succ]; with_reducible rfl
            · exact fun _ _ _ h => h
            · rfl
            · intro wS hSw; (try dsimp only at hSw); go_simp <;> with_reducible rfl
            simp only [put_lit, List.set]
            refine wpAnyH_take (i := 22) (oi := ?_) (v := ?_) ?_ (by kernel_rfl) (by kernel_rfl) (by kernel_rfl) ?_ (Or.inl ⟨?_, ?_⟩) hHeld ?_
            rotate_left 2
            · simp only [List.getElem?_toArray, List.getElem?_cons_zero, List.getElem?_cons_succ]; with_reducible rfl
            · exact fun _ _ _ h => h
            · rfl
            · intro wS hSw; (try dsimp only at hSw); go_simp <;> with_reducible rfl
            simp only [put_lit, List.set]
            refine wpAnyH_take (i := 23) (oi := ?_) (v := ?_) ?_ (by kernel_rfl) (by kernel_rfl) (by kernel_rfl) ?_ (Or.inl ⟨?_, ?_⟩) hHeld ?_
            rotate_left 2
            · simp only [List.getElem?_toArray, List.getElem?_cons_zero, List.getElem?_cons_succ]; with_reducible rfl
            · exact fun _ _ _ h => h
            · rfl
            · intro wS hSw; (try dsimp only at hSw); go_simp <;> with_reducible rfl
            simp only [put_lit, List.set]
            refine wpAnyH_take (i := 24) (oi := ?_) (v := ?_) ?_ (by kernel_rfl) (by kernel_rfl) (by kernel_rfl) ?_ (Or.inl ⟨?_, ?_⟩) hHeld ?_
            rotate_left 2
            · simp only [List.getElem?_toArray, List.getElem?_cons_zero, List.getElem?_cons_succ]; with_reducible rfl
            · exact fun _ _ _ h => h
            · rfl
            · intro wS hSw; (try dsimp only at hSw); go_simp <;> with_reducible rfl
            simp only [put_lit, List.set]
            refine wpAnyH_take (i := 25) (oi := ?_) (v := ?_) ?_ (by kernel_rfl) (by kernel_rfl) (by kernel_rfl) ?_ (Or.inl ⟨?_, ?_⟩) hHeld ?_
            rotate_left 2
            · simp only [List.getElem?_toArray, List.getElem?_cons_zero, List.getElem?_cons_succ]; with_reducible rfl
            · exact fun _ _ _ h => h
            · rfl
            · intro wS hSw; (try dsimp only at hSw); go_simp <;> with_reducible rfl
            simp only [put_lit, List.set]
            refine wpAnyH_take (i := 26) (oi := ?_) (v := ?_) ?_ (by kernel_rfl) (by kernel_rfl) (by kernel_rfl) ?_ (Or.inl ⟨?_, ?_⟩) hHeld ?_
            rotate_left 2
            · simp only [List.getElem?_toArray, List.getElem?_cons_zero, List.getElem?_cons_succ]; with_reducible rfl
            · exact fun _ _ _ h => h
            · rfl
            · intro wS hSw; (try dsimp only at hSw); go_simp <;> with_reducible rfl
            simp only [put_lit, List.set]
            refine wpAnyH_take (i := 27) (oi := ?_) (v := ?_) ?_ (by kernel_rfl) (by kernel_rfl) (by kernel_rfl) ?_ (Or.inl ⟨?_, ?_⟩) hHeld ?_
            rotate_left 2
            · simp only [List.getElem?_toArray, List.getElem?_cons_zero, List.getElem?_cons_succ]; with_reducible rfl
            · exact fun _ _ _ h => h
            · rfl
            · intro wS hSw; (try dsimp only at hSw); go_simp <;> with_reducible rfl
            simp only [put_lit, List.set]
            refine wpAnyH_take (i := 28) (oi := ?_) (v := ?_) ?_ (by kernel_rfl) (by kernel_rfl) (by kernel_rfl) ?_ (Or.inl ⟨?_, ?_⟩) hHeld ?_
            rotate_left 2
            · simp only [List.getElem?_toArray, List.getElem?_cons_zero, List.getElem?_cons_succ]; with_reducible rfl
            · exact fun _ _ _ h => h
            · rfl
            · intro wS hSw; (try dsimp only at hSw); go_simp <;> with_reducible rfl
            simp only [put_lit, List.set]
            refine wpAnyH_ready (rs := [29]) (by kernel_rfl) (by simp) ?_
            refine AllReadyH.cons rfl (fun K hK => ?_) AllReadyH.nil
            go_simp
            go_at_call 24
            refine (CBd _ hb2.out).mono ?_
            rintro e w3 ⟨rfl, hb3⟩
            go_wp2_with fail
            refine hK.out _ _ ?_ (fun hHeld2 => ?_)
            · exact keepS.out _ hb3.out
            clear hK K hHeld
            have hHeld := hHeld2
            clear hHeld2
            (try simp only [put_lit, List.set])
            refine wpAnyH_take (i := 30) (oi := ?_) (v := ?_) ?_ (by kernel_rfl) (by kernel_rfl) (by kernel_rfl) ?_ (Or.inl ⟨?_, ?_⟩) hHeld ?_
            rotate_left 2
            · simp only [List.getElem?_toArray, List.getElem?_cons_zero, List.getElem?_cons_succ]; with_reducible rfl
            · exact fun _ _ _ h => h
            · rfl
            · intro wS hSw; (try dsimp only at hSw); go_simp <;> with_reducible rfl
            simp only [put_lit, List.set]
            refine wpAnyH_take (i := 31) (oi := ?_) (v := ?_) ?_ (by kernel_rfl) (by kernel_rfl) (by kernel_rfl) ?_ (Or.inl ⟨?_, ?_⟩) hHeld ?_
            rotate_left 2
            · simp only [List.getElem?_toArray, List.getElem?_cons_zero, List.getElem?_cons_succ]; with_reducible rfl
            · exact fun _ _ _ h => h
            · rfl
            · intro wS hSw; (try dsimp only at hSw); go_simp <;> with_reducible rfl
            simp only [put_lit, List.set]
            refine wpAnyH_done (by kernel_rfl) ?_ _
            have HBB : Hid (Below w.heap.size w w3) := below_more HB.out hb3.out HB.out.size
            clear hHeld hb2 hb3 HC HB CBd
            have hm0 : ¬ ((m : Int) < 0) := by omega
            cases q
            · clear keepS hVd CCd
              go_wp2
              all_goals first | (exfalso; simp_all; done) | (exfalso; rename_i hh; rcases hh with hh | hh <;> first | exact absurd hh hm0 | (cases hh; done)) | skip
              go_roundw
              case rel => exact ⟨m + 1, i + 1, by omega, by omega, (congrArg (Value.int IntKind.i64) (show (m : Int) = ((m + 1 : Nat) : Int) - 1 from by omega)), by go_num, HS.out, HBB.out⟩
              case measure => simp [intOf]; omega
            · clear keepS hVd CCd
              go_wp2
              all_goals first | (exfalso; simp_all; done) | (exfalso; rename_i hh; rcases hh with hh | hh <;> first | exact absurd hh hm0 | (cases hh; done)) | skip
              go_roundw
              case rel => exact ⟨i + 1, i + 1, by omega, by omega, by go_num, by go_num, HS.out, HBB.out⟩
              case measure => simp [intOf]; omega
        · have HS : Hid (BestAt (qB 1 false) l (i + 1) k) := HSK.out (by rw [hx]; unfold qB; rw [hv]; simp)
          rw [hx] at c0 c1 c2 c3 c4
          clear hv HSK
          go_upto_region 5 with fail
          have HXX : Hid (l[i] = x) := hx
          have keepS : Hid (∀ X, Below wr.heap.size wr X → X.cell? ⟨b, off + i * 5, none⟩ = some (.int .i64 x.id) ∧ X.cell? ⟨b, off + i * 5 + 1, none⟩ = some (.int .i64 x.addr) ∧ X.cell? ⟨b, off + i * 5 + 2, none⟩ = some (.int .i64 x.prio) ∧ X.cell? ⟨b, off + i * 5 + 3, none⟩ = some (.int .i64 x.dr) ∧ X.cell? ⟨b, off + i * 5 + 4, none⟩ = some (.int .i64 x.bdr) ∧ Hid (Below wr.heap.size wr X)) := fun X hX => by
            obtain ⟨e0, e1, e2, e3, e4⟩ := HC.out X hX i hlt
            rw [HXX.out] at e0 e1 e2 e3 e4
            exact ⟨e0, e1, e2, e3, e4, hX⟩
          have hVd : Hid (Below wr.heap.size wr wr.drew) := (Below.refl _ _).drew
          have CCd : ∀ W (h : Below wr.heap.size wr W), Calls Try.prog 23 #[.agg (candA x)] W fun e w' => e = .returned (.int .i64 2) ∧ Hid (Below wr.heap.size wr w') := fun W h => (CC W).mono fun e w' ⟨h1, h2⟩ => ⟨h1, below_more h h2 h.size⟩
          clear CC hx c0 c1 c2 c3 c4
          refine wp_region_held_drew (S := (fun X => X.cell? ⟨b, off + i * 5, none⟩ = some (.int .i64 x.id) ∧ X.cell? ⟨b, off + i * 5 + 1, none⟩ = some (.int .i64 x.addr) ∧ X.cell? ⟨b, off + i * 5 + 2, none⟩ = some (.int .i64 x.prio) ∧ X.cell? ⟨b, off + i * 5 + 3, none⟩ = some (.int .i64 x.dr) ∧ X.cell? ⟨b, off + i * 5 + 4, none⟩ = some (.int .i64 x.bdr) ∧ Hid (Below wr.heap.size wr X))) (by kernel_rfl) ?_ (fun hHeld => ?_)
          · exact keepS.out _ hVd.out
          refine wpAnyH_take (i := 0) (oi := ?_) (v := ?_) ?_ (by kernel_rfl) (by kernel_rfl) (by kernel_rfl) ?_ (Or.inl ⟨?_, ?_⟩) hHeld ?_
          rotate_left 2
          · simp only [List.getElem?_toArray, List.getElem?_cons_zero]; with_reducible rfl
          · exact fun _ _ _ h => h
          · rfl
          · intro wS hSw; (try dsimp only at hSw); go_simp <;> with_reducible rfl
          simp only [put_lit, List.set]
          refine wpAnyH_take (i := 1) (oi := ?_) (v := ?_) ?_ (by kernel_rfl) (by kernel_rfl) (by kernel_rfl) ?_ (Or.inl ⟨?_, ?_⟩) hHeld ?_
          rotate_left 2
          · simp only [List.getElem?_toArray, List.getElem?_cons_zero, List.getElem?_cons_succ]; with_reducible rfl
          · exact fun _ _ _ h => h
          · rfl
          · intro wS hSw; (try dsimp only at hSw); go_simp <;> with_reducible rfl
          simp only [put_lit, List.set]
          refine wpAnyH_take (i := 2) (oi := ?_) (v := ?_) ?_ (by kernel_rfl) (by kernel_rfl) (by kernel_rfl) ?_ (Or.inl ⟨?_, ?_⟩) hHeld ?_
          rotate_left 2
          · simp only [List.getElem?_toArray, List.getElem?_cons_zero, List.getElem?_cons_succ]; with_reducible rfl
          · exact fun _ _ _ h => h
          · rfl
          · intro wS hSw; (try dsimp only at hSw); go_simp <;> with_reducible rfl
          simp only [put_lit, List.set]
          refine wpAnyH_take (i := 3) (oi := ?_) (v := ?_) ?_ (by kernel_rfl) (by kernel_rfl) (by kernel_rfl) ?_ (Or.inl ⟨?_, ?_⟩) hHeld ?_
          rotate_left 2
          · simp only [List.getElem?_toArray, List.getElem?_cons_zero, List.getElem?_cons_succ]; with_reducible rfl
          · exact fun _ _ _ h => h
          · rfl
          · intro wS hSw; (try dsimp only at hSw); go_simp <;> with_reducible rfl
          simp only [put_lit, List.set]
          refine wpAnyH_take (i := 4) (oi := ?_) (v := ?_) ?_ (by kernel_rfl) (by kernel_rfl) (by kernel_rfl) ?_ (Or.inl ⟨?_, ?_⟩) hHeld ?_
          rotate_left 2
          · simp only [List.getElem?_toArray, List.getElem?_cons_zero, List.getElem?_cons_succ]; with_reducible rfl
          · exact fun _ _ _ h => h
          · rfl
          · intro wS hSw; (try dsimp only at hSw); go_simp <;> with_reducible rfl
          simp only [put_lit, List.set]
          refine wpAnyH_take (i := 5) (oi := ?_) (v := ?_) ?_ (by kernel_rfl) (by kernel_rfl) (by kernel_rfl) ?_ (Or.inl ⟨?_, ?_⟩) hHeld ?_
          rotate_left 2
          · simp only [List.getElem?_toArray, List.getElem?_cons_zero, List.getElem?_cons_succ]; with_reducible rfl
          · exact fun _ _ _ h => h
          · rfl
          · intro wS hSw; (try dsimp only at hSw); go_simp <;> with_reducible rfl
          simp only [put_lit, List.set]
          refine wpAnyH_take (i := 6) (oi := ?_) (v := ?_) ?_ (by kernel_rfl) (by kernel_rfl) (by kernel_rfl) ?_ (Or.inl ⟨?_, ?_⟩) hHeld ?_
          rotate_left 2
          · simp only [List.getElem?_toArray, List.getElem?_cons_zero, List.getElem?_cons_succ]; with_reducible rfl
          · exact fun _ _ _ h => h
          · rfl
          · intro wS hSw; (try dsimp only at hSw); go_simp <;> with_reducible rfl
          simp only [put_lit, List.set]
          refine wpAnyH_take (i := 7) (oi := ?_) (v := ?_) ?_ (by kernel_rfl) (by kernel_rfl) (by kernel_rfl) ?_ (Or.inl ⟨?_, ?_⟩) hHeld ?_
          rotate_left 2
          · simp only [List.getElem?_toArray, List.getElem?_cons_zero, List.getElem?_cons_succ]; with_reducible rfl
          · exact fun _ _ _ h => h
          · rfl
          · intro wS hSw; (try dsimp only at hSw); go_simp <;> with_reducible rfl
          simp only [put_lit, List.set]
          refine wpAnyH_take (i := 8) (oi := ?_) (v := ?_) ?_ (by kernel_rfl) (by kernel_rfl) (by kernel_rfl) ?_ (Or.inl ⟨?_, ?_⟩) hHeld ?_
          rotate_left 2
          · simp only [List.getElem?_toArray, List.getElem?_cons_zero, List.getElem?_cons_succ]; with_reducible rfl
          · exact fun _ _ _ h => h
          · rfl
          · intro wS hSw; (try dsimp only at hSw); go_simp <;> with_reducible rfl
          simp only [put_lit, List.set]
          refine wpAnyH_take (i := 9) (oi := ?_) (v := ?_) ?_ (by kernel_rfl) (by kernel_rfl) (by kernel_rfl) ?_ (Or.inl ⟨?_, ?_⟩) hHeld ?_
          rotate_left 2
          · simp only [List.getElem?_toArray, List.getElem?_cons_zero, List.getElem?_cons_succ]; with_reducible rfl
          · exact fun _ _ _ h => h
          · rfl
          · intro wS hSw; (try dsimp only at hSw); go_simp <;> with_reducible rfl
          simp only [put_lit, List.set]
          refine wpAnyH_take (i := 10) (oi := ?_) (v := ?_) ?_ (by kernel_rfl) (by kernel_rfl) (by kernel_rfl) ?_ (Or.inl ⟨?_, ?_⟩) hHeld ?_
          rotate_left 2
          · simp only [List.getElem?_toArray, List.getElem?_cons_zero, List.getElem?_cons_succ]; with_reducible rfl
          · exact fun _ _ _ h => h
          · rfl
          · intro wS hSw; (try dsimp only at hSw); go_simp <;> with_reducible rfl
          simp only [put_lit, List.set]
          refine wpAnyH_take (i := 12) (oi := ?_) (v := ?_) ?_ (by kernel_rfl) (by kernel_rfl) (by kernel_rfl) ?_ (Or.inl ⟨?_, ?_⟩) hHeld ?_
          rotate_left 2
          · simp only [List.getElem?_toArray, List.getElem?_cons_zero, List.getElem?_cons_succ]; with_reducible rfl
          · exact fun _ _ _ h => h
          · rfl
          · intro wS hSw; (try dsimp only at hSw); go_simp <;> with_reducible rfl
          simp only [put_lit, List.set]
          refine wpAnyH_take (i := 14) (oi := ?_) (v := ?_) ?_ (by kernel_rfl) (by kernel_rfl) (by kernel_rfl) ?_ (Or.inl ⟨?_, ?_⟩) hHeld ?_
          rotate_left 2
          · simp only [List.getElem?_toArray, List.getElem?_cons_zero, List.getElem?_cons_succ]; with_reducible rfl
          · exact fun _ _ _ h => h
          · rfl
          · intro wS hSw; (try dsimp only at hSw); go_simp <;> with_reducible rfl
          simp only [put_lit, List.set]
          refine wpAnyH_ready (rs := [11]) (by kernel_rfl) (by simp) ?_
          refine AllReadyH.cons rfl (fun K hK => ?_) AllReadyH.nil
          go_simp
          go_at_call 23
          refine (CCd _ hVd.out).mono ?_
          rintro e w2 ⟨rfl, hb2⟩
          go_wp2_with fail
          refine hK.out _ _ ?_ (fun hHeld2 => ?_)
          · exact keepS.out _ hb2.out
          clear hK K hHeld
          have hHeld := hHeld2
          clear hHeld2
          (try simp only [put_lit, List.set])
          refine wpAnyH_take (i := 13) (oi := ?_) (v := ?_) ?_ (by kernel_rfl) (by kernel_rfl) (by kernel_rfl) ?_ (Or.inl ⟨?_, ?_⟩) hHeld ?_
          rotate_left 2
          · simp only [List.getElem?_toArray, List.getElem?_cons_zero, List.getElem?_cons_succ]; with_reducible rfl
          · exact fun _ _ _ h => h
          · rfl
          · intro wS hSw; (try dsimp only at hSw); go_simp <;> with_reducible rfl
          simp only [put_lit, List.set]
          refine wpAnyH_take (i := 15) (oi := ?_) (v := ?_) ?_ (by kernel_rfl) (by kernel_rfl) (by kernel_rfl) ?_ (Or.inl ⟨?_, ?_⟩) hHeld ?_
          rotate_left 2
          · simp only [List.getElem?_toArray, List.getElem?_cons_zero, List.getElem?_cons_succ]; with_reducible rfl
          · exact fun _ _ _ h => h
          · rfl
          · intro wS hSw; (try dsimp only at hSw); go_simp <;> with_reducible rfl
          simp only [put_lit, List.set]
          refine wpAnyH_take (i := 16) (oi := ?_) (v := ?_) ?_ (by kernel_rfl) (by kernel_rfl) (by kernel_rfl) ?_ (Or.inl ⟨?_, ?_⟩) hHeld ?_
          rotate_left 2
          · simp only [List.getElem?_toArray, List.getElem?_cons_zero, List.getElem?_cons_succ]; with_reducible rfl
          · exact fun _ _ _ h => h
          · rfl
          · intro wS hSw; (try dsimp only at hSw); go_simp <;> with_reducible rfl
          simp only [put_lit, List.set]
          refine wpAnyH_take (i := 17) (oi := ?_) (v := ?_) ?_ (by kernel_rfl) (by kernel_rfl) (by kernel_rfl) ?_ (Or.inl ⟨?_, ?_⟩) hHeld ?_
          rotate_left 2
          · simp only [List.getElem?_toArray, List.getElem?_cons_zero, List.getElem?_cons_succ]; with_reducible rfl
          · exact fun _ _ _ h => h
          · rfl
          · intro wS hSw; (try dsimp only at hSw); go_simp <;> with_reducible rfl
          simp only [put_lit, List.set]
          refine wpAnyH_take (i := 18) (oi := ?_) (v := undef) ?_ (by kernel_rfl) (by kernel_rfl) (by kernel_rfl) ?_ (Or.inr ⟨?_, rfl⟩) hHeld ?_
          rotate_left
          · simp only [List.getElem?_toArray, List.getElem?_cons_zero, List.getElem?_cons_succ]; with_reducible rfl
          · exact fun _ _ _ h => h
          · rfl
          simp only [put_lit, List.set]
          refine wpAnyH_take (i := 19) (oi := ?_) (v := undef) ?_ (by kernel_rfl) (by kernel_rfl) (by kernel_rfl) ?_ (Or.inr ⟨?_, rfl⟩) hHeld ?_
          rotate_left
          · simp only [List.getElem?_toArray, List.getElem?_cons_zero, List.getElem?_cons_succ]; with_reducible rfl
          · exact fun _ _ _ h => h
          · rfl
          simp only [put_lit, List.set]
          refine wpAnyH_take (i := 20) (oi := ?_) (v := undef) ?_ (by kernel_rfl) (by kernel_rfl) (by kernel_rfl) ?_ (Or.inr ⟨?_, rfl⟩) hHeld ?_
          rotate_left
          · simp only [List.getElem?_toArray, List.getElem?_cons_zero, List.getElem?_cons_succ]; with_reducible rfl
          · exact fun _ _ _ h => h
          · rfl
          simp only [put_lit, List.set]
          refine wpAnyH_take (i := 21) (oi := ?_) (v := undef) ?_ (by kernel_rfl) (by kernel_rfl) (by kernel_rfl) ?_ (Or.inr ⟨?_, rfl⟩) hHeld ?_
          rotate_left
          · simp only [List.getElem?_toArray, List.getElem?_cons_zero, List.getElem?_cons_succ]; with_reducible rfl
          · exact fun _ _ _ h => h
          · rfl
          simp only [put_lit, List.set]
          refine wpAnyH_take (i := 22) (oi := ?_) (v := undef) ?_ (by kernel_rfl) (by kernel_rfl) (by kernel_rfl) ?_ (Or.inr ⟨?_, rfl⟩) hHeld ?_
          rotate_left
          · simp only [List.getElem?_toArray, List.getElem?_cons_zero, List.getElem?_cons_succ]; with_reducible rfl
          · exact fun _ _ _ h => h
          · rfl
          simp only [put_lit, List.set]
          refine wpAnyH_take (i := 23) (oi := ?_) (v := undef) ?_ (by kernel_rfl) (by kernel_rfl) (by kernel_rfl) ?_ (Or.inr ⟨?_, rfl⟩) hHeld ?_
          rotate_left
          · simp only [List.getElem?_toArray, List.getElem?_cons_zero, List.getElem?_cons_succ]; with_reducible rfl
          · exact fun _ _ _ h => h
          · rfl
          simp only [put_lit, List.set]
          refine wpAnyH_take (i := 24) (oi := ?_) (v := undef) ?_ (by kernel_rfl) (by kernel_rfl) (by kernel_rfl) ?_ (Or.inr ⟨?_, rfl⟩) hHeld ?_
          rotate_left
          · simp only [List.getElem?_toArray, List.getElem?_cons_zero, List.getElem?_cons_succ]; with_reducible rfl
          · exact fun _ _ _ h => h
          · rfl
          simp only [put_lit, List.set]
          refine wpAnyH_take (i := 25) (oi := ?_) (v := undef) ?_ (by kernel_rfl) (by kernel_rfl) (by kernel_rfl) ?_ (Or.inr ⟨?_, rfl⟩) hHeld ?_
          rotate_left
          · simp only [List.getElem?_toArray, List.getElem?_cons_zero, List.getElem?_cons_succ]; with_reducible rfl
          · exact fun _ _ _ h => h
          · rfl
          simp only [put_lit, List.set]
          refine wpAnyH_take (i := 26) (oi := ?_) (v := undef) ?_ (by kernel_rfl) (by kernel_rfl) (by kernel_rfl) ?_ (Or.inr ⟨?_, rfl⟩) hHeld ?_
          rotate_left
          · simp only [List.getElem?_toArray, List.getElem?_cons_zero, List.getElem?_cons_succ]; with_reducible rfl
          · exact fun _ _ _ h => h
          · rfl
          simp only [put_lit, List.set]
          refine wpAnyH_take (i := 27) (oi := ?_) (v := undef) ?_ (by kernel_rfl) (by kernel_rfl) (by kernel_rfl) ?_ (Or.inr ⟨?_, rfl⟩) hHeld ?_
          rotate_left
          · simp only [List.getElem?_toArray, List.getElem?_cons_zero, List.getElem?_cons_succ]; with_reducible rfl
          · exact fun _ _ _ h => h
          · rfl
          simp only [put_lit, List.set]
          refine wpAnyH_take (i := 28) (oi := ?_) (v := undef) ?_ (by kernel_rfl) (by kernel_rfl) (by kernel_rfl) ?_ (Or.inr ⟨?_, rfl⟩) hHeld ?_
          rotate_left
          · simp only [List.getElem?_toArray, List.getElem?_cons_zero, List.getElem?_cons_succ]; with_reducible rfl
          · exact fun _ _ _ h => h
          · rfl
          simp only [put_lit, List.set]
          refine wpAnyH_take (i := 29) (oi := ?_) (v := undef) ?_ (by kernel_rfl) (by kernel_rfl) (by kernel_rfl) ?_ (Or.inr ⟨?_, rfl⟩) hHeld ?_
          rotate_left
          · simp only [List.getElem?_toArray, List.getElem?_cons_zero, List.getElem?_cons_succ]; with_reducible rfl
          · exact fun _ _ _ h => h
          · rfl
          simp only [put_lit, List.set]
          refine wpAnyH_take (i := 30) (oi := ?_) (v := undef) ?_ (by kernel_rfl) (by kernel_rfl) (by kernel_rfl) ?_ (Or.inr ⟨?_, rfl⟩) hHeld ?_
          rotate_left
          · simp only [List.getElem?_toArray, List.getElem?_cons_zero, List.getElem?_cons_succ]; with_reducible rfl
          · exact fun _ _ _ h => h
          · rfl
          simp only [put_lit, List.set]
          refine wpAnyH_take (i := 31) (oi := ?_) (v := ?_) ?_ (by kernel_rfl) (by kernel_rfl) (by kernel_rfl) ?_ (Or.inl ⟨?_, ?_⟩) hHeld ?_
          rotate_left 2
          · simp only [List.getElem?_toArray, List.getElem?_cons_zero, List.getElem?_cons_succ]; with_reducible rfl
          · exact fun _ _ _ h => h
          · rfl
          · intro wS hSw; (try dsimp only at hSw); go_simp <;> with_reducible rfl
          simp only [put_lit, List.set]
          refine wpAnyH_done (by kernel_rfl) ?_ _
          have HBB : Hid (Below w.heap.size w w2) := below_more HB.out hb2.out HB.out.size
          clear hHeld hb2 HC HB
          clear keepS hVd CCd
          go_wp2
          go_roundw
          case rel => exact ⟨k, i + 1, by omega, by omega, by go_num, by go_num, HS.out, HBB.out⟩
          case measure => simp [intOf]; omega
      · have HS : Hid (BestAt (qB 1 false) l (i + 1) k) := HSK.out (by rw [hx]; unfold qB; simp [hp])
        rw [hx] at c0 c1 c2 c3 c4
        clear HSK hx
        go_upto_region 5 with fail
        go_quiet (fail)
        have HB2 : Hid (Below w.heap.size w (wr.drewN nq)) := HB.out.trans ⟨rfl, rfl, rfl, Nat.le_refl _, fun _ _ => rfl⟩
        generalize wr.drewN nq = w3 at *
        clear c0 c1 c2 c3 c4 HB HC
        go_wp2
        go_roundw
        case rel => exact ⟨k, i + 1, by omega, by omega, by go_num, by go_num, HS.out, HB2.out⟩
        case measure => simp [intOf]; omega
    · have hke : i = l.length := by omega
      subst hke
      have hnl : ¬ ((l.length : Int) < (l.length : Int)) := by omega
      by_cases hk0 : k = 0
      · subst hk0
        have HE : Hid (AddrIs (qB 1 false) l 0) := H.out.end0
        have h01 : (((0 : Nat) : Int) - 1) = -1 := by omega
        rw [h01]
        go_wp2
        go_ret
        exact ⟨0, rfl, HE.out, HB.out⟩
      · obtain ⟨hk, hE⟩ := H.out.end1 (by omega)
        have HE : Hid (AddrIs (qB 1 false) l l[k - 1].addr) := hE
        obtain ⟨m, rfl⟩ : ∃ m, k = m + 1 := ⟨k - 1, by omega⟩
        simp only [Nat.add_sub_cancel] at HE hk
        have h01 : (((m + 1 : Nat) : Int) - 1) = (m : Int) := by omega
        rw [h01]
        have hmI : (m : Int) < (l.length : Int) := by omega
        obtain ⟨b, off, rfl, c0, c1, c2, c3, c4⟩ := Cands.cells (HL.out.below HB.out) m hk
        generalize l[m].addr = A at *
        clear hE
        go_wp2
        go_ret
        exact ⟨A, rfl, HE.out, HB.out⟩
end Go.Proofs.Ytioimebfenklkaa
