/- Heads as bytes, as the document says it. -/
import Derived.Test.YtmcemhkhgccojaaS5W5
import Derived.Deep.Cut
namespace Go.Proofs.Ytmcemhkhgccojaa
open Go.RowKit
set_option linter.unusedVariables false

theorem owns_two (w : World) (a b : Int) : Owns (w.alloc (.cells #[.int .u8 a, .int .u8 b] 5)) w.heap.size w.heap.size 2 [a, b] :=
  ⟨rfl, .inr ⟨w.heap.size, 2, _, rfl, Nat.le_refl _, heap_alloc_new w _, Nat.le_refl _, by unfold maxLen; omega, rfl, rfl⟩⟩
theorem owns_four (w : World) (a b c d : Int) : Owns (w.alloc (.cells #[.int .u8 a, .int .u8 b, .int .u8 c, .int .u8 d] 5)) w.heap.size w.heap.size 4 [a, b, c, d] :=
  ⟨rfl, .inr ⟨w.heap.size, 4, _, rfl, Nat.le_refl _, heap_alloc_new w _, Nat.le_refl _, by unfold maxLen; omega, rfl, rfl⟩⟩
theorem dtwo_any (n : Int) (w : World) : Calls Try.prog 60 #[.int .i64 n] w fun e w' => e = .returned (.slice (some ⟨w.heap.size, 0, none⟩) 2 2) ∧ Owns w' w.heap.size w.heap.size 2 (be2 n) ∧ Below w.heap.size w w' := by
  go_enter Try.func60, Try.ntmps60
  go_wp2
  go_ret
  exact ⟨rfl, owns_two _ _ _, below_new' _ _⟩
theorem dfour_any (n : Int) (w : World) : Calls Try.prog 61 #[.int .i64 n] w fun e w' => e = .returned (.slice (some ⟨w.heap.size, 0, none⟩) 4 4) ∧ Owns w' w.heap.size w.heap.size 4 (be4 n) ∧ Below w.heap.size w w' := by
  go_enter Try.func61, Try.ntmps61
  go_wp2
  go_ret
  exact ⟨rfl, owns_four _ _ _ _ _, below_new' _ _⟩
theorem grown_below {W W' : World} {N g cap : Nat} {zs : List Int} (ho : Owns W N g cap zs) (hg : W.grownBy W' (some g)) : Below N W W' :=
  (Below.refl _ _).grown hg ho.more (fun j hj => by cases hj; exact ho.lt.1)
set_option maxHeartbeats 1600000 in
theorem dputHead_any (h : HeadZ) (w : World) :
    Calls Try.prog 59 #[.agg (headA h)] w fun e w' => ∃ b cap, e = .returned (.slice (some ⟨b, 0, none⟩) 20 cap) ∧ Owns w' w.heap.size b cap (headZ h) ∧ Below w.heap.size w w' := by
  have HX : Hid (HBox (w.alloc (.cells (headA h) 34)) w.heap.size h) := hbox_new w h
  have H0 : Hid (Below w.heap.size w (w.alloc (.cells (headA h) 34))) := below_new' _ _
  have HS : (w.alloc (.cells (headA h) 34)).heap.size = w.heap.size + 1 := size_new _ _
  go_enter Try.func59, Try.ntmps59
  go_upto_region 1 with fail
  generalize w.alloc (.cells (headA h) 34) = W at *
  have hlt : w.heap.size < W.heap.size := by omega
  generalize hN : W.heap.size = N at *
  have HNN : Hid (W.heap.size = N) := hN
  clear HS hN
  obtain ⟨c0, c1, c2, c3, c4, c5, c6⟩ := HX.out
  go_wp2_with fail
  refine (dtwo_any _ _).mono ?_
  rintro e w1 ⟨rfl, ho, hb⟩
  rw [HNN.out] at ho hb
  rw [HNN.out]
  have HO : Hid (Owns w1 N N 2 (be2 h.age)) := ho
  have HB : Hid (Below N W w1) := hb
  clear ho hb c0 c1 c2 c3 c4 c5 c6
  have hX := HX.out.below HB.out hlt
  obtain ⟨c0, c1, c2, c3, c4, c5, c6⟩ := hX
  go_wp2_with (at_builtin; go_must (refine wp_append_bytes _ rfl _ _ rfl N N 2 (be2 h.age) _ rfl rfl (HO.out.alloc _) _ _ _ rfl [0, h.kind % 256] rfl (bts_two _ _ _) (by simp) (by simp [be2]) (by have := HO.out.more; simp; omega) ?_))
  intro g2 cp2 w2 ho hg
  replace HB : Hid (Below N W w2) := below_append HB.out HO.out hg
  replace HO : Hid (Owns w2 N g2 cp2 _) := ho
  clear ho hg c0 c1 c2 c3 c4 c5 c6
  have hX := HX.out.below HB.out hlt
  obtain ⟨c0, c1, c2, c3, c4, c5, c6⟩ := hX
  go_wp2_with fail
  refine (dfour_any _ _).mono ?_
  rintro e w3 ⟨rfl, ho, hb⟩
  replace HB : Hid (Below N W w3) := below_more HB.out hb HO.out.more
  replace HO : Hid (Owns w3 N g2 cp2 (be2 h.age ++ [0, h.kind % 256])) := HO.out.below hb
  have HT : Hid (Bts w3 _ (be4 h.id)) := ho.bts
  clear ho hb c0 c1 c2 c3 c4 c5 c6
  go_wp2_with (at_builtin; go_must (refine wp_append_bytes w3 rfl _ _ rfl N g2 cp2 (be2 h.age ++ [0, h.kind % 256]) _ rfl rfl HO.out _ _ _ rfl (be4 h.id) rfl HT.out (by simp) (by simp [be2, be4]) HO.out.more ?_))
  intro g4 cp4 w4 ho hg
  replace HB : Hid (Below N W w4) := HB.out.trans (grown_below HO.out hg)
  replace HO : Hid (Owns w4 N g4 cp4 ((be2 h.age ++ [0, h.kind % 256]) ++ be4 h.id)) := ho
  clear ho hg HT
  have hX := HX.out.below HB.out hlt
  obtain ⟨c0, c1, c2, c3, c4, c5, c6⟩ := hX
  go_wp2_with fail
  refine (dfour_any _ _).mono ?_
  rintro e w5 ⟨rfl, ho, hb⟩
  replace HB : Hid (Below N W w5) := below_more HB.out hb HO.out.more
  replace HO : Hid (Owns w5 N g4 cp4 ((be2 h.age ++ [0, h.kind % 256]) ++ be4 h.id)) := HO.out.below hb
  have HT : Hid (Bts w5 _ (be4 h.adv)) := ho.bts
  clear ho hb c0 c1 c2 c3 c4 c5 c6
  go_wp2_with (at_builtin; go_must (refine wp_append_bytes w5 rfl _ _ rfl N g4 cp4 ((be2 h.age ++ [0, h.kind % 256]) ++ be4 h.id) _ rfl rfl HO.out _ _ _ rfl (be4 h.adv) rfl HT.out (by simp) (by simp [be2, be4]) HO.out.more ?_))
  intro g6 cp6 w6 ho hg
  replace HB : Hid (Below N W w6) := HB.out.trans (grown_below HO.out hg)
  replace HO : Hid (Owns w6 N g6 cp6 (((be2 h.age ++ [0, h.kind % 256]) ++ be4 h.id) ++ be4 h.adv)) := ho
  clear ho hg HT
  have hX := HX.out.below HB.out hlt
  obtain ⟨c0, c1, c2, c3, c4, c5, c6⟩ := hX
  go_wp2_with fail
  refine (dfour_any _ _).mono ?_
  rintro e w7 ⟨rfl, ho, hb⟩
  replace HB : Hid (Below N W w7) := below_more HB.out hb HO.out.more
  replace HO : Hid (Owns w7 N g6 cp6 (((be2 h.age ++ [0, h.kind % 256]) ++ be4 h.id) ++ be4 h.adv)) := HO.out.below hb
  have HT : Hid (Bts w7 _ (be4 h.seq)) := ho.bts
  clear ho hb c0 c1 c2 c3 c4 c5 c6
  go_wp2_with (at_builtin; go_must (refine wp_append_bytes w7 rfl _ _ rfl N g6 cp6 (((be2 h.age ++ [0, h.kind % 256]) ++ be4 h.id) ++ be4 h.adv) _ rfl rfl HO.out _ _ _ rfl (be4 h.seq) rfl HT.out (by simp) (by simp [be2, be4]) HO.out.more ?_))
  intro g8 cp8 w8 ho hg
  replace HB : Hid (Below N W w8) := HB.out.trans (grown_below HO.out hg)
  replace HO : Hid (Owns w8 N g8 cp8 ((((be2 h.age ++ [0, h.kind % 256]) ++ be4 h.id) ++ be4 h.adv) ++ be4 h.seq)) := ho
  clear ho hg HT
  have hX := HX.out.below HB.out hlt
  obtain ⟨c0, c1, c2, c3, c4, c5, c6⟩ := hX
  go_wp2_with fail
  refine (dtwo_any _ _).mono ?_
  rintro e w9 ⟨rfl, ho, hb⟩
  replace HB : Hid (Below N W w9) := below_more HB.out hb HO.out.more
  replace HO : Hid (Owns w9 N g8 cp8 ((((be2 h.age ++ [0, h.kind % 256]) ++ be4 h.id) ++ be4 h.adv) ++ be4 h.seq)) := HO.out.below hb
  have HT : Hid (Bts w9 _ (be2 h.sum)) := ho.bts
  clear ho hb c0 c1 c2 c3 c4 c5 c6
  go_wp2_with (at_builtin; go_must (refine wp_append_bytes w9 rfl _ _ rfl N g8 cp8 ((((be2 h.age ++ [0, h.kind % 256]) ++ be4 h.id) ++ be4 h.adv) ++ be4 h.seq) _ rfl rfl HO.out _ _ _ rfl (be2 h.sum) rfl HT.out (by simp) (by simp [be2, be4]) HO.out.more ?_))
  intro g10 cp10 w10 ho hg
  replace HB : Hid (Below N W w10) := HB.out.trans (grown_below HO.out hg)
  replace HO : Hid (Owns w10 N g10 cp10 (((((be2 h.age ++ [0, h.kind % 256]) ++ be4 h.id) ++ be4 h.adv) ++ be4 h.seq) ++ be2 h.sum)) := ho
  clear ho hg HT
  have hX := HX.out.below HB.out hlt
  obtain ⟨c0, c1, c2, c3, c4, c5, c6⟩ := hX
  go_wp2_with fail
  refine (dtwo_any _ _).mono ?_
  rintro e w11 ⟨rfl, ho, hb⟩
  replace HB : Hid (Below N W w11) := below_more HB.out hb HO.out.more
  replace HO : Hid (Owns w11 N g10 cp10 (((((be2 h.age ++ [0, h.kind % 256]) ++ be4 h.id) ++ be4 h.adv) ++ be4 h.seq) ++ be2 h.sum)) := HO.out.below hb
  have HT : Hid (Bts w11 _ (be2 h.len)) := ho.bts
  clear ho hb c0 c1 c2 c3 c4 c5 c6
  go_wp2_with (at_builtin; go_must (refine wp_append_bytes w11 rfl _ _ rfl N g10 cp10 (((((be2 h.age ++ [0, h.kind % 256]) ++ be4 h.id) ++ be4 h.adv) ++ be4 h.seq) ++ be2 h.sum) _ rfl rfl HO.out _ _ _ rfl (be2 h.len) rfl HT.out (by simp) (by simp [be2, be4]) HO.out.more ?_))
  intro g12 cp12 w12 ho hg
  replace HB : Hid (Below N W w12) := HB.out.trans (grown_below HO.out hg)
  replace HO : Hid (Owns w12 N g12 cp12 ((((((be2 h.age ++ [0, h.kind % 256]) ++ be4 h.id) ++ be4 h.adv) ++ be4 h.seq) ++ be2 h.sum) ++ be2 h.len)) := ho
  clear ho hg HT
  go_wp2
  go_ret
  exact ⟨_, _, rfl, HO.out.base (Nat.le_of_lt hlt), H0.out.trans (HB.out.mono (Nat.le_of_lt hlt))⟩
theorem dkeyOf_any (h : HeadZ) (w : World) :
    Calls Try.prog 27 #[.agg (headA h)] w fun e w' => e = .returned (.agg #[.int .i64 h.kind, .int .i64 h.id, .int .i64 h.adv]) ∧ Below w.heap.size w w' := by
  have HB : Hid (Below w.heap.size w ((w.alloc (.cells (headA h) 34)).alloc (.cells #[.int .i64 h.kind, .int .i64 h.id, .int .i64 h.adv] 41))) := (below_new' _ _).alloc (by simp) _
  go_enter Try.func27, Try.ntmps27
  go_wp2
  refine bodyPost_ret (by simp [results, Try.results27, go_sem]; try rfl) rfl ?_
  exact ⟨rfl, HB.out⟩
end Go.Proofs.Ytmcemhkhgccojaa
