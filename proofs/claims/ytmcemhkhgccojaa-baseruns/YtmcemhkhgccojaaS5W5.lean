/- Heads, links and bodies as bytes. -/
import Derived.Test.YtmcemhkhgccojaaY8A
import Derived.Test.YtmcemhkhgccojaaS5W4
import Derived.Test.YtmcemhkhgccojaaY8B
namespace Go.Proofs.Ytmcemhkhgccojaa
open Go.RowKit

theorem Owns.base {w : World} {base base' g cap : Nat} {zs : List Int} (h : Owns w base g cap zs) (hb : base' ≤ base) : Owns w base' g cap zs := by
  rcases h.2 with ⟨h', _⟩ | ⟨g', cap', cur, h', hbg, r⟩
  · cases h'
  · exact ⟨h.1, .inr ⟨g', cap', cur, h', by omega, r⟩⟩
theorem Owns.more {w : World} {base g cap : Nat} {zs : List Int} (h : Owns w base g cap zs) : base ≤ w.heap.size := by have := h.lt; omega

theorem below_append {N : Nat} {W0 w1 w2 : World} {g cp : Nat} {zs : List Int} {o : Obj} (hb : Below N W0 w1) (ho : Owns w1 N g cp zs) (hg : (w1.alloc o).grownBy w2 (some g)) : Below N W0 w2 :=
  (hb.alloc ho.more _).grown hg (by have := ho.more; simp; omega) (fun j hj => by cases hj; exact ho.lt.1)
set_option maxHeartbeats 800000 in
theorem wappend_nil (n : Int) (w : World) :
    Calls Try.prog 92 #[.slice none 0 0, .int .i64 n, .int .i64 2] w fun e w' => ∃ g cp, e = .returned (.slice (some ⟨g, 0, none⟩) 2 cp) ∧ Owns w' w.heap.size g cp (be2 n) ∧ Below w.heap.size w w' := by
  go_enter Try.func92, Try.ntmps92
  go_wp2
  refine wp_loop_rounds 3 ?_
  rw [rounds_succ]
  go_wp2_with (at_builtin; go_must (refine wp_append_first _ rfl _ _ rfl rfl w.heap.size (by simp) _ _ _ rfl [n / 256 % 256] rfl (bts_one _ _) (by simp) (by simp) ?_))
  intro g1 cp1 w1 ho1 hb1
  have HO1 : Hid (Owns w1 w.heap.size g1 cp1 [n / 256 % 256]) := ho1
  have HB1 : Hid (Below w.heap.size w w1) := below_more (below_new' _ _) hb1 (by simp)
  clear ho1 hb1
  go_wp2
  rw [rounds_succ]
  go_wp2_with (at_builtin; go_must (refine wp_append_bytes _ rfl _ _ rfl w.heap.size g1 cp1 [n / 256 % 256] _ rfl rfl (HO1.out.alloc _) _ _ _ rfl [n % 256] rfl (bts_one _ _) (by simp) (by simp) (by have := HO1.out.more; simp; omega) ?_))
  intro g2 cp2 w2 ho2 hg2
  have HO2 : Hid (Owns w2 w.heap.size g2 cp2 (be2 n)) := ho2
  have HB2 : Hid (Below w.heap.size w w2) := below_append HB1.out HO1.out hg2
  clear ho2 hg2 HO1 HB1
  go_wp2
  rw [rounds_succ]
  go_wp2
  go_ret
  exact ⟨g2, cp2, rfl, HO2.out, HB2.out⟩

/-- A head in a variable. -/
structure HBox (w : World) (b : Nat) (h : HeadZ) : Prop where
  c0 : w.cell? ⟨b, 0, none⟩ = some (.int .i64 h.age)
  c1 : w.cell? ⟨b, 1, none⟩ = some (.int .i64 h.kind)
  c2 : w.cell? ⟨b, 2, none⟩ = some (.int .i64 h.id)
  c3 : w.cell? ⟨b, 3, none⟩ = some (.int .i64 h.adv)
  c4 : w.cell? ⟨b, 4, none⟩ = some (.int .i64 h.seq)
  c5 : w.cell? ⟨b, 5, none⟩ = some (.int .i64 h.sum)
  c6 : w.cell? ⟨b, 6, none⟩ = some (.int .i64 h.len)
theorem HBox.below {w w' : World} {b N : Nat} {h : HeadZ} (hx : HBox w b h) (hb : Below N w w') (hN : b < N) : HBox w' b h := by
  obtain ⟨h0, h1, h2, h3, h4, h5, h6⟩ := hx
  exact ⟨by rw [hb.cell hN]; exact h0, by rw [hb.cell hN]; exact h1, by rw [hb.cell hN]; exact h2, by rw [hb.cell hN]; exact h3, by rw [hb.cell hN]; exact h4, by rw [hb.cell hN]; exact h5, by rw [hb.cell hN]; exact h6⟩
theorem hbox_new (w : World) (h : HeadZ) : HBox (w.alloc (.cells (headA h) 34)) w.heap.size h := by
  constructor <;> simp
set_option maxHeartbeats 1600000 in
theorem putHead_any (h : HeadZ) (w : World) :
    Calls Try.prog 89 #[.agg (headA h)] w fun e w' => ∃ b cap, e = .returned (.slice (some ⟨b, 0, none⟩) 20 cap) ∧ Owns w' w.heap.size b cap (headZ h) ∧ Below w.heap.size w w' := by
  have HX : Hid (HBox (w.alloc (.cells (headA h) 34)) w.heap.size h) := hbox_new w h
  have H0 : Hid (Below w.heap.size w (w.alloc (.cells (headA h) 34))) := below_new' _ _
  have HS : (w.alloc (.cells (headA h) 34)).heap.size = w.heap.size + 1 := size_new _ _
  have hn := wappend_nil h.age (w.alloc (.cells (headA h) 34))
  rw [HS] at hn
  clear HS
  go_enter Try.func89, Try.ntmps89
  go_wp2_with fail
  refine hn.mono ?_
  clear hn
  rintro e w1 ⟨g1, cp1, rfl, ho, hb⟩
  have HO : Hid (Owns w1 (w.heap.size + 1) g1 cp1 _) := ho
  have HB : Hid (Below (w.heap.size + 1) _ w1) := hb
  clear ho hb
  have hX := HX.out.below HB.out (Nat.lt_succ_self _)
  obtain ⟨c0, c1, c2, c3, c4, c5, c6⟩ := hX
  go_wp2_with (at_builtin; go_must (refine wp_append_bytes _ rfl _ _ rfl (w.heap.size + 1) g1 cp1 (be2 h.age) _ rfl rfl (HO.out.alloc _) _ _ _ rfl [0, h.kind % 256] rfl (bts_two _ _ _) (by simp) (by simp [be2]) (by have := HO.out.more; simp; omega) ?_))
  intro g2 cp2 w2 ho hg
  replace HB : Hid (Below (w.heap.size + 1) _ w2) := below_append HB.out HO.out hg
  replace HO : Hid (Owns w2 (w.heap.size + 1) g2 cp2 _) := ho
  clear ho hg
  clear c0 c1 c2 c3 c4 c5 c6
  have hX := HX.out.below HB.out (Nat.lt_succ_self _)
  obtain ⟨c0, c1, c2, c3, c4, c5, c6⟩ := hX
  go_wp2_with fail
  refine (wappend4 _ (w.heap.size + 1) _ _ _ _ w2 HO.out rfl (by simp [be2]) HO.out.more).mono ?_
  rintro e w3 ⟨g3, cp3, rfl, ho, hb, _⟩
  replace HO : Hid (Owns w3 (w.heap.size + 1) g3 cp3 _) := ho
  replace HB : Hid (Below (w.heap.size + 1) _ w3) := HB.out.trans hb
  clear ho hb
  clear c0 c1 c2 c3 c4 c5 c6
  have hX := HX.out.below HB.out (Nat.lt_succ_self _)
  obtain ⟨c0, c1, c2, c3, c4, c5, c6⟩ := hX
  go_wp2_with fail
  refine (wappend4 _ (w.heap.size + 1) _ _ _ _ w3 HO.out rfl (by simp [be2, be4]) HO.out.more).mono ?_
  rintro e w4 ⟨g4, cp4, rfl, ho, hb, _⟩
  replace HO : Hid (Owns w4 (w.heap.size + 1) g4 cp4 _) := ho
  replace HB : Hid (Below (w.heap.size + 1) _ w4) := HB.out.trans hb
  clear ho hb
  clear c0 c1 c2 c3 c4 c5 c6
  have hX := HX.out.below HB.out (Nat.lt_succ_self _)
  obtain ⟨c0, c1, c2, c3, c4, c5, c6⟩ := hX
  go_wp2_with fail
  refine (wappend4 _ (w.heap.size + 1) _ _ _ _ w4 HO.out rfl (by simp [be2, be4]) HO.out.more).mono ?_
  rintro e w5 ⟨g5, cp5, rfl, ho, hb, _⟩
  replace HO : Hid (Owns w5 (w.heap.size + 1) g5 cp5 _) := ho
  replace HB : Hid (Below (w.heap.size + 1) _ w5) := HB.out.trans hb
  clear ho hb
  clear c0 c1 c2 c3 c4 c5 c6
  have hX := HX.out.below HB.out (Nat.lt_succ_self _)
  obtain ⟨c0, c1, c2, c3, c4, c5, c6⟩ := hX
  go_wp2_with fail
  refine (wappend2 _ (w.heap.size + 1) _ _ _ _ w5 HO.out rfl (by simp [be2, be4]) HO.out.more).mono ?_
  rintro e w6 ⟨g6, cp6, rfl, ho, hb, _⟩
  replace HO : Hid (Owns w6 (w.heap.size + 1) g6 cp6 _) := ho
  replace HB : Hid (Below (w.heap.size + 1) _ w6) := HB.out.trans hb
  clear ho hb
  clear c0 c1 c2 c3 c4 c5 c6
  have hX := HX.out.below HB.out (Nat.lt_succ_self _)
  obtain ⟨c0, c1, c2, c3, c4, c5, c6⟩ := hX
  go_wp2_with fail
  refine (wappend2 _ (w.heap.size + 1) _ _ _ _ w6 HO.out rfl (by simp [be2, be4]) HO.out.more).mono ?_
  rintro e w7 ⟨g7, cp7, rfl, ho, hb, _⟩
  replace HO : Hid (Owns w7 (w.heap.size + 1) g7 cp7 _) := ho
  replace HB : Hid (Below (w.heap.size + 1) _ w7) := HB.out.trans hb
  clear ho hb
  clear c0 c1 c2 c3 c4 c5 c6
  go_wp2
  go_ret
  exact ⟨_, _, rfl, HO.out.base (by omega), below_more H0.out HB.out (by omega)⟩
end Go.Proofs.Ytmcemhkhgccojaa
