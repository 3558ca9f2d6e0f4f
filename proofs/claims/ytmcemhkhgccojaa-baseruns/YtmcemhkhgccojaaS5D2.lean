/- The bytes of an advertisement, as the document says it. -/
import Derived.Test.YtmcemhkhgccojaaS5D1
import Derived.Test.YtmcemhkhgccojaaY8C
namespace Go.Proofs.Ytmcemhkhgccojaa
open Go.RowKit
set_option linter.unusedVariables false

theorem Grew.belowG {w w' : World} (g : Nat) (h : Below w.heap.size w w') : Grew w w' g g := ⟨h.size, fun k hk _ => h.block k hk, .inl rfl⟩
set_option maxHeartbeats 3200000 in
theorem dbytes_2 (s : Seats) (l : LsaZ) (w : World) (hH : Held w s l) (hf : Mid l) (hk : l.head.kind = 2) :
    Calls Try.prog 43 #[.agg (lsaA s l)] w fun e w' => ∃ g cp, e = .returned (.slice (some ⟨g, 0, none⟩) (layZ l).length cp) ∧ Owns w' w.heap.size g cp (layZ l) ∧ Below w.heap.size w w' := by
  have e1 : (l.head.kind == 1) = false := by simp [hk]
  have e2 : (l.head.kind == 2) = true := by simp [hk]
  have HE : Hid (bodyZ l = be4 (maskN (clampN l.bits)) ++ l.routers.flatMap be4) := by show _ = _; unfold bodyZ; rw [if_neg (by omega), if_pos hk]
  have HX : Hid (Box (w.alloc (.cells (lsaA s l) 39)) w.heap.size s l) := box_new w s l
  have H0 : Hid (Below w.heap.size w (w.alloc (.cells (lsaA s l) 39))) := below_new' _ _
  have HS : (w.alloc (.cells (lsaA s l) 39)).heap.size = w.heap.size + 1 := size_new _ _
  have HH : Hid (Held w s l) := hH
  obtain ⟨f1, f2, f3⟩ := hf
  clear hH hk
  go_enter Try.func43, Try.ntmps43
  go_upto_region 1 with fail
  generalize w.alloc (.cells (lsaA s l) 39) = W at *
  have hlt : w.heap.size < W.heap.size := by omega
  have hph := dputHead_any l.head W
  generalize hN : W.heap.size = N at *
  have HNN : Hid (W.heap.size = N) := hN
  clear HS hN
  obtain ⟨c0, c1, c2, c3, c4, c5, c6, c7, c8, c9, c10, c11⟩ := HX.out
  go_wp2_with fail
  refine hph.mono ?_
  rintro e w1 ⟨g1, cp1, rfl, ho, hb⟩
  have HO : Hid (Owns w1 N g1 cp1 (headZ l.head)) := ho
  have HB : Hid (Below N W w1) := hb
  have hhl : (headZ l.head).length = 20 := headZ_length _
  have HHL : Hid ((headZ l.head).length = 20) := hhl
  have HLY : Hid (layZ l = headZ l.head ++ bodyZ l) := rfl
  clear ho hb hph hhl c0 c1 c2 c3 c4 c5 c6 c7 c8 c9 c10 c11
  generalize headZ l.head = hd at *
  have hX := HX.out.below HB.out hlt
  obtain ⟨c0, c1, c2, c3, c4, c5, c6, c7, c8, c9, c10, c11⟩ := hX
  go_wp2_with fail
  refine (rmask_any _ _).mono ?_
  rintro e wm ⟨rfl, hwm⟩
  subst wm
  generalize maskN (clampN l.bits) = M at *
  go_wp2_with fail
  refine (dfour_any _ _).mono ?_
  rintro e w2 ⟨rfl, ho, hb⟩
  have HT : Hid (Bts w2 _ (be4 M)) := ho.bts
  replace HB : Hid (Below N W w2) := below_more HB.out hb HO.out.more
  replace HO : Hid (Owns w2 N g1 cp1 hd) := HO.out.below hb
  clear ho hb c0 c1 c2 c3 c4 c5 c6 c7 c8 c9 c10 c11
  go_wp2_with (at_builtin; go_must (refine wp_append_bytes w2 rfl _ _ rfl N g1 cp1 hd _ rfl HHL.out.symm HO.out _ _ _ rfl (be4 M) rfl HT.out (by simp) (by rw [HHL.out]; simp [be4]) HO.out.more ?_))
  intro g3 cp3 w3 ho hg
  replace HB : Hid (Below N W w3) := HB.out.trans (grown_below HO.out hg)
  replace HO : Hid (Owns w3 N g3 cp3 (hd ++ be4 M)) := ho
  clear ho hg HT
  have hX := HX.out.below HB.out hlt
  obtain ⟨c0, c1, c2, c3, c4, c5, c6, c7, c8, c9, c10, c11⟩ := hX
  go_wp2_with fail
  clear c0 c1 c2 c3 c4 c5 c6 c7 c8 c9 c10 c11
  go_loopw [3, 6] (fun v t wr => ∃ (k : Nat) (zs : List Int) (n gk cp : Nat), v = .slice (some ⟨gk, 0, none⟩) n cp ∧ t = .int .i64 k ∧ k ≤ l.routers.length ∧ Hid (n = zs.length) ∧ Hid (zs = hd ++ be4 M ++ (l.routers.take k).flatMap be4) ∧ Hid (zs.length ≤ 24 + k * 4) ∧ Hid (Owns wr N gk cp zs) ∧ Hid (Below N W wr)) (fun _ t _ => l.routers.length - (intOf t).toNat)
  case atStart => exact ⟨0, _, _, _, _, rfl, rfl, by omega, by show _ = _; rw [List.length_append, HHL.out]; rfl, by show _ = _; simp, by show _ ≤ _; rw [List.length_append, HHL.out]; simp [be4], HO.out, HB.out⟩
  case round =>
    obtain ⟨k, zs, n, gk, cp, rfl, rfl, hk, hn, hz, hzl, ho, hb⟩ := hrel
    have hX := HX.out.below hb.out hlt
    obtain ⟨c0, c1, c2, c3, c4, c5, c6, c7, c8, c9, c10, c11⟩ := hX
    by_cases hltk : k < l.routers.length
    · have hLs := (HH.out.below (H0.out.trans (hb.out.mono (Nat.le_of_lt hlt)))).hr
      obtain ⟨b, off, hra, r0⟩ := Ints.cells hLs k hltk
      rw [hra] at c10
      clear hLs
      go_wp2_with fail
      refine (dfour_any _ _).mono ?_
      rintro e w5 ⟨rfl, ho5, hb5⟩
      have HT : Hid (Bts w5 _ (be4 l.routers[k])) := ho5.bts
      have HB5 : Hid (Below N W w5) := below_more hb.out hb5 ho.out.more
      have HO5 : Hid (Owns w5 N gk cp zs) := ho.out.below hb5
      have hzb : zs.length ≤ 5000000 := by have := hzl.out; omega
      clear ho5 hb5 ho hb r0 c0 c1 c2 c3 c4 c5 c6 c7 c8 c9 c10 c11
      go_wp2_with (at_builtin; go_must (refine wp_append_bytes w5 rfl _ _ rfl N gk cp zs _ rfl hn.out HO5.out _ _ _ rfl (be4 l.routers[k]) rfl HT.out (by simp) (by simp [be4]; omega) HO5.out.more ?_))
      intro g6 cp6 w6 ho6 hg6
      have HB6 : Hid (Below N W w6) := HB5.out.trans (grown_below HO5.out hg6)
      have HO6 : Hid (Owns w6 N g6 cp6 (zs ++ be4 l.routers[k])) := ho6
      have HNk : Hid (n + 4 = (zs ++ be4 l.routers[k]).length) := by show _ = _; rw [List.length_append, ← hn.out]; rfl
      have HZk : Hid (zs ++ be4 l.routers[k] = hd ++ be4 M ++ (l.routers.take (k + 1)).flatMap be4) := by show _ = _; rw [hz.out, take_flat be4 l.routers k hltk]; simp
      have HLk : Hid ((zs ++ be4 l.routers[k]).length ≤ 24 + (k + 1) * 4) := by show _ ≤ _; have := hzl.out; have := hn.out; have := HNk.out; omega
      clear ho6 hg6 HB5 HO5 hn hz hzl HT hzb
      go_wp2
      go_roundw
      case rel => exact ⟨k + 1, _, _, g6, cp6, rfl, by go_num, by omega, HNk.out, HZk.out, HLk.out, HO6.out, HB6.out⟩
      case measure => simp [intOf]; omega
    · obtain rfl : k = l.routers.length := by omega
      have hzz : zs = hd ++ (be4 M ++ l.routers.flatMap be4) := by have := hz.out; rw [List.take_length] at this; rw [this]; simp
      have HO2 : Hid (Owns wr N gk cp (layZ l)) := by rw [HLY.out, HE.out]; exact hzz ▸ ho.out
      have HN2 : Hid (n = (layZ l).length) := by show _ = _; rw [HLY.out, HE.out, hn.out, hzz]
      have HBE : Hid (Below w.heap.size w wr) := H0.out.trans (hb.out.mono (Nat.le_of_lt hlt))
      clear hzz hz ho hn hzl
      go_wp2
      go_ret
      exact ⟨_, _, ret_slice HN2.out, HO2.out.base (Nat.le_of_lt hlt), HBE.out⟩
set_option maxHeartbeats 3200000 in
theorem dbytes_none (s : Seats) (l : LsaZ) (w : World) (hH : Held w s l) (hf : Mid l) (hk1 : ¬ l.head.kind = 1) (hk2 : ¬ l.head.kind = 2) (hk : ¬ l.head.kind = 6) :
    Calls Try.prog 43 #[.agg (lsaA s l)] w fun e w' => ∃ g cp, e = .returned (.slice (some ⟨g, 0, none⟩) (layZ l).length cp) ∧ Owns w' w.heap.size g cp (layZ l) ∧ Below w.heap.size w w' := by
  have e1 : (l.head.kind == 1) = false := by simp [hk1]
  have e2 : (l.head.kind == 2) = false := by simp [hk2]
  have e6 : (l.head.kind == 6) = false := by simp [hk]
  have HE : Hid (bodyZ l = []) := by show _ = _; unfold bodyZ; rw [if_neg hk1, if_neg hk2, if_neg hk]
  have HX : Hid (Box (w.alloc (.cells (lsaA s l) 39)) w.heap.size s l) := box_new w s l
  have H0 : Hid (Below w.heap.size w (w.alloc (.cells (lsaA s l) 39))) := below_new' _ _
  have HS : (w.alloc (.cells (lsaA s l) 39)).heap.size = w.heap.size + 1 := size_new _ _
  have HH : Hid (Held w s l) := hH
  obtain ⟨f1, f2, f3⟩ := hf
  clear hH hk
  go_enter Try.func43, Try.ntmps43
  go_upto_region 1 with fail
  generalize w.alloc (.cells (lsaA s l) 39) = W at *
  have hlt : w.heap.size < W.heap.size := by omega
  have hph := dputHead_any l.head W
  generalize hN : W.heap.size = N at *
  have HNN : Hid (W.heap.size = N) := hN
  clear HS hN
  obtain ⟨c0, c1, c2, c3, c4, c5, c6, c7, c8, c9, c10, c11⟩ := HX.out
  go_wp2_with fail
  refine hph.mono ?_
  rintro e w1 ⟨g1, cp1, rfl, ho, hb⟩
  have HO : Hid (Owns w1 N g1 cp1 (headZ l.head)) := ho
  have HB : Hid (Below N W w1) := hb
  have hhl : (headZ l.head).length = 20 := headZ_length _
  have HHL : Hid ((headZ l.head).length = 20) := hhl
  have HLY : Hid (layZ l = headZ l.head ++ bodyZ l) := rfl
  clear ho hb hph hhl c0 c1 c2 c3 c4 c5 c6 c7 c8 c9 c10 c11
  generalize headZ l.head = hd at *
  clear hk1 hk2
  have hX := HX.out.below HB.out hlt
  obtain ⟨c0, c1, c2, c3, c4, c5, c6, c7, c8, c9, c10, c11⟩ := hX
  have HO2 : Hid (Owns w1 N g1 cp1 (layZ l)) := by rw [HLY.out, HE.out, List.append_nil]; exact HO.out
  have HN2 : Hid (20 = (layZ l).length) := by show _ = _; rw [HLY.out, HE.out, List.append_nil, HHL.out]
  have HBE : Hid (Below w.heap.size w w1) := H0.out.trans (HB.out.mono (Nat.le_of_lt hlt))
  go_wp2
  go_ret
  exact ⟨_, _, ret_slice HN2.out, HO2.out.base (Nat.le_of_lt hlt), HBE.out⟩
set_option maxHeartbeats 3200000 in
theorem dbytes_6 (s : Seats) (l : LsaZ) (w : World) (hH : Held w s l) (hf : Mid l) (hk : l.head.kind = 6) :
    Calls Try.prog 43 #[.agg (lsaA s l)] w fun e w' => ∃ g cp, e = .returned (.slice (some ⟨g, 0, none⟩) (layZ l).length cp) ∧ Owns w' w.heap.size g cp (layZ l) ∧ Below w.heap.size w w' := by
  have e1 : (l.head.kind == 1) = false := by simp [hk]
  have e2 : (l.head.kind == 2) = false := by simp [hk]
  have e6 : (l.head.kind == 6) = true := by simp [hk]
  have HE : Hid (bodyZ l = l.verts.flatMap vertZ) := by show _ = _; unfold bodyZ; rw [if_neg (by omega), if_neg (by omega), if_pos hk]
  have HX : Hid (Box (w.alloc (.cells (lsaA s l) 39)) w.heap.size s l) := box_new w s l
  have H0 : Hid (Below w.heap.size w (w.alloc (.cells (lsaA s l) 39))) := below_new' _ _
  have HS : (w.alloc (.cells (lsaA s l) 39)).heap.size = w.heap.size + 1 := size_new _ _
  have HH : Hid (Held w s l) := hH
  obtain ⟨f1, f2, f3⟩ := hf
  clear hH hk
  go_enter Try.func43, Try.ntmps43
  go_upto_region 1 with fail
  generalize w.alloc (.cells (lsaA s l) 39) = W at *
  have hlt : w.heap.size < W.heap.size := by omega
  have hph := dputHead_any l.head W
  generalize hN : W.heap.size = N at *
  have HNN : Hid (W.heap.size = N) := hN
  clear HS hN
  obtain ⟨c0, c1, c2, c3, c4, c5, c6, c7, c8, c9, c10, c11⟩ := HX.out
  go_wp2_with fail
  refine hph.mono ?_
  rintro e w1 ⟨g1, cp1, rfl, ho, hb⟩
  have HO : Hid (Owns w1 N g1 cp1 (headZ l.head)) := ho
  have HB : Hid (Below N W w1) := hb
  have hhl : (headZ l.head).length = 20 := headZ_length _
  have HHL : Hid ((headZ l.head).length = 20) := hhl
  have HLY : Hid (layZ l = headZ l.head ++ bodyZ l) := rfl
  clear ho hb hph hhl c0 c1 c2 c3 c4 c5 c6 c7 c8 c9 c10 c11
  generalize headZ l.head = hd at *
  have hX := HX.out.below HB.out hlt
  obtain ⟨c0, c1, c2, c3, c4, c5, c6, c7, c8, c9, c10, c11⟩ := hX
  go_wp2_with fail
  clear c0 c1 c2 c3 c4 c5 c6 c7 c8 c9 c10 c11
  go_loopw [3, 7] (fun v t wr => ∃ (k : Nat) (zs : List Int) (n gk cp : Nat), v = .slice (some ⟨gk, 0, none⟩) n cp ∧ t = .int .i64 k ∧ k ≤ l.verts.length ∧ Hid (n = zs.length) ∧ Hid (zs = hd ++ (l.verts.take k).flatMap vertZ) ∧ Hid (zs.length ≤ 20 + k * 8) ∧ Hid (Owns wr N gk cp zs) ∧ Hid (Below N W wr)) (fun _ t _ => l.verts.length - (intOf t).toNat)
  case atStart => exact ⟨0, _, _, _, _, rfl, rfl, by omega, HHL.out.symm, by show _ = _; simp, by show _ ≤ _; rw [HHL.out]; simp, HO.out, HB.out⟩
  case round =>
    clear HO HB
    obtain ⟨k, zs, n, gk, cp, rfl, rfl, hk, hn, hz, hzl, ho, hb⟩ := hrel
    by_cases hltk : k < l.verts.length
    · have hzb : zs.length ≤ 9000000 := by have := hzl.out; omega
      obtain ⟨g4, hg4⟩ : ∃ g4, gk = g4 := ⟨_, rfl⟩
      obtain ⟨cp4, hcp4⟩ : ∃ cp4, cp = cp4 := ⟨_, rfl⟩
      subst hg4 hcp4
      have HB4 : Hid (Below N W wr) := hb.out
      have HO4 : Hid (Owns wr N gk cp zs) := ho.out
      clear ho hb
      obtain ⟨c0, c1, c2, c3, c4, c5, c6, c7, c8, c9, c10, c11⟩ := HX.out.below HB4.out hlt
      obtain ⟨b1, off1, hra1, r0, r1⟩ := Verts.cells (HH.out.below (H0.out.trans (HB4.out.mono (Nat.le_of_lt hlt)))).hv k hltk
      rw [hra1] at c11
      go_wp2_with fail
      refine (dfour_any _ _).mono ?_
      rintro e w5 ⟨rfl, ho, hb⟩
      have HT : Hid (Bts w5 _ (be4 l.verts[k].kind)) := ho.bts
      have HB5 : Hid (Below N W w5) := below_more HB4.out hb HO4.out.more
      have HO5 : Hid (Owns w5 N gk cp zs) := HO4.out.below hb
      clear ho hb r0 r1 hra1 c0 c1 c2 c3 c4 c5 c6 c7 c8 c9 c10 c11 HB4 HO4
      go_wp2_with (at_builtin; go_must (refine wp_append_bytes w5 rfl _ _ rfl N gk cp zs _ rfl hn.out HO5.out _ _ _ rfl (be4 l.verts[k].kind) rfl HT.out (by simp) (by simp [be4]; omega) HO5.out.more ?_))
      intro g6 cp6 w6 ho hg
      have HB6 : Hid (Below N W w6) := HB5.out.trans (grown_below HO5.out hg)
      have HO6 : Hid (Owns w6 N g6 cp6 (zs ++ be4 l.verts[k].kind)) := by first | exact ho | (show Owns _ _ _ _ _; rw [List.append_assoc]; exact ho)
      clear ho hg HT HB5 HO5
      obtain ⟨c0, c1, c2, c3, c4, c5, c6, c7, c8, c9, c10, c11⟩ := HX.out.below HB6.out hlt
      obtain ⟨b2, off2, hra2, r0, r1⟩ := Verts.cells (HH.out.below (H0.out.trans (HB6.out.mono (Nat.le_of_lt hlt)))).hv k hltk
      rw [hra2] at c11
      go_wp2_with fail
      refine (dfour_any _ _).mono ?_
      rintro e w7 ⟨rfl, ho, hb⟩
      have HT : Hid (Bts w7 _ (be4 l.verts[k].id)) := ho.bts
      have HB7 : Hid (Below N W w7) := below_more HB6.out hb HO6.out.more
      have HO7 : Hid (Owns w7 N g6 cp6 (zs ++ be4 l.verts[k].kind)) := HO6.out.below hb
      clear ho hb r0 r1 hra2 c0 c1 c2 c3 c4 c5 c6 c7 c8 c9 c10 c11 HB6 HO6
      go_wp2_with (at_builtin; go_must (refine wp_append_bytes w7 rfl _ _ rfl N g6 cp6 (zs ++ be4 l.verts[k].kind) _ rfl (by rw [List.length_append, ← hn.out]; rfl) HO7.out _ _ _ rfl (be4 l.verts[k].id) rfl HT.out (by simp) (by simp [be4]; omega) HO7.out.more ?_))
      intro g8 cp8 w8 ho hg
      have HB8 : Hid (Below N W w8) := HB7.out.trans (grown_below HO7.out hg)
      have HO8 : Hid (Owns w8 N g8 cp8 ((zs ++ be4 l.verts[k].kind) ++ be4 l.verts[k].id)) := by first | exact ho | (show Owns _ _ _ _ _; rw [List.append_assoc]; exact ho)
      clear ho hg HT HB7 HO7
      have HNk : Hid (n + 4 + 4 = (zs ++ be4 l.verts[k].kind ++ be4 l.verts[k].id).length) := by show _ = _; rw [List.length_append, List.length_append, ← hn.out]; rfl
      have HZk : Hid (zs ++ be4 l.verts[k].kind ++ be4 l.verts[k].id = hd ++ (l.verts.take (k + 1)).flatMap vertZ) := by show _ = _; rw [hz.out, take_flat vertZ l.verts k hltk]; unfold vertZ; simp
      have HLk : Hid ((zs ++ be4 l.verts[k].kind ++ be4 l.verts[k].id).length ≤ 20 + (k + 1) * 8) := by show _ ≤ _; have := hzl.out; have := hn.out; have := HNk.out; omega
      clear hn hz hzl hzb
      go_wp2
      go_roundw
      case rel => exact ⟨k + 1, _, _, g8, cp8, rfl, by go_num, by omega, HNk.out, HZk.out, HLk.out, HO8.out, HB8.out⟩
      case measure => simp [intOf]; omega
    · obtain rfl : k = l.verts.length := by omega
      have hX := HX.out.below hb.out hlt
      obtain ⟨c0, c1, c2, c3, c4, c5, c6, c7, c8, c9, c10, c11⟩ := hX
      have hzz : zs = hd ++ l.verts.flatMap vertZ := by have := hz.out; rw [List.take_length] at this; rw [this]
      have HO2 : Hid (Owns wr N gk cp (layZ l)) := by rw [HLY.out, HE.out]; exact hzz ▸ ho.out
      have HN2 : Hid (n = (layZ l).length) := by show _ = _; rw [HLY.out, HE.out, hn.out, hzz]
      have HBE : Hid (Below w.heap.size w wr) := H0.out.trans (hb.out.mono (Nat.le_of_lt hlt))
      clear hzz hz ho hn hzl
      go_wp2
      go_ret
      exact ⟨_, _, ret_slice HN2.out, HO2.out.base (Nat.le_of_lt hlt), HBE.out⟩
set_option maxHeartbeats 3200000 in
theorem dbytes_1 (s : Seats) (l : LsaZ) (w : World) (hH : Held w s l) (hf : Mid l) (hk : l.head.kind = 1) :
    Calls Try.prog 43 #[.agg (lsaA s l)] w fun e w' => ∃ g cp, e = .returned (.slice (some ⟨g, 0, none⟩) (layZ l).length cp) ∧ Owns w' w.heap.size g cp (layZ l) ∧ Below w.heap.size w w' := by
  have e1 : (l.head.kind == 1) = true := by simp [hk]
  have HE : Hid (bodyZ l = ([l.flags % 256, 0] ++ be2 l.links.length) ++ l.links.flatMap linkZ) := by show _ = _; unfold bodyZ; rw [if_pos hk]
  have HX : Hid (Box (w.alloc (.cells (lsaA s l) 39)) w.heap.size s l) := box_new w s l
  have H0 : Hid (Below w.heap.size w (w.alloc (.cells (lsaA s l) 39))) := below_new' _ _
  have HS : (w.alloc (.cells (lsaA s l) 39)).heap.size = w.heap.size + 1 := size_new _ _
  have HH : Hid (Held w s l) := hH
  obtain ⟨f1, f2, f3⟩ := hf
  clear hH hk
  go_enter Try.func43, Try.ntmps43
  go_upto_region 1 with fail
  generalize w.alloc (.cells (lsaA s l) 39) = W at *
  have hlt : w.heap.size < W.heap.size := by omega
  have hph := dputHead_any l.head W
  generalize hN : W.heap.size = N at *
  have HNN : Hid (W.heap.size = N) := hN
  clear HS hN
  obtain ⟨c0, c1, c2, c3, c4, c5, c6, c7, c8, c9, c10, c11⟩ := HX.out
  go_wp2_with fail
  refine hph.mono ?_
  rintro e w1 ⟨g1, cp1, rfl, ho, hb⟩
  have HO : Hid (Owns w1 N g1 cp1 (headZ l.head)) := ho
  have HB : Hid (Below N W w1) := hb
  have hhl : (headZ l.head).length = 20 := headZ_length _
  have HHL : Hid ((headZ l.head).length = 20) := hhl
  have HLY : Hid (layZ l = headZ l.head ++ bodyZ l) := rfl
  clear ho hb hph hhl c0 c1 c2 c3 c4 c5 c6 c7 c8 c9 c10 c11
  generalize headZ l.head = hd at *
  have hX := HX.out.below HB.out hlt
  obtain ⟨c0, c1, c2, c3, c4, c5, c6, c7, c8, c9, c10, c11⟩ := hX
  go_wp2_with (at_builtin; go_must (refine wp_append_bytes _ rfl _ _ rfl N g1 cp1 hd _ rfl HHL.out.symm (HO.out.alloc _) _ _ _ rfl [l.flags % 256, 0] rfl (bts_two _ _ _) (by simp) (by rw [HHL.out]; simp) (by have := HO.out.more; simp; omega) ?_))
  intro g2 cp2 w2 ho hg
  replace HB : Hid (Below N W w2) := below_append HB.out HO.out hg
  replace HO : Hid (Owns w2 N g2 cp2 (hd ++ [l.flags % 256, 0])) := ho
  clear ho hg c0 c1 c2 c3 c4 c5 c6 c7 c8 c9 c10 c11
  have hX := HX.out.below HB.out hlt
  obtain ⟨c0, c1, c2, c3, c4, c5, c6, c7, c8, c9, c10, c11⟩ := hX
  go_wp2_with fail
  refine (dtwo_any _ _).mono ?_
  rintro e w3 ⟨rfl, ho, hb⟩
  have HT : Hid (Bts w3 _ (be2 l.links.length)) := ho.bts
  replace HB : Hid (Below N W w3) := below_more HB.out hb HO.out.more
  replace HO : Hid (Owns w3 N g2 cp2 (hd ++ [l.flags % 256, 0])) := HO.out.below hb
  clear ho hb c0 c1 c2 c3 c4 c5 c6 c7 c8 c9 c10 c11
  go_wp2_with (at_builtin; go_must (refine wp_append_bytes w3 rfl _ _ rfl N g2 cp2 (hd ++ [l.flags % 256, 0]) _ rfl (by rw [List.length_append, HHL.out]; rfl) HO.out _ _ _ rfl (be2 l.links.length) rfl HT.out (by simp) (by rw [List.length_append, HHL.out]; simp [be2]) HO.out.more ?_))
  intro g3 cp3 w4 ho hg
  replace HB : Hid (Below N W w4) := HB.out.trans (grown_below HO.out hg)
  replace HO : Hid (Owns w4 N g3 cp3 (hd ++ [l.flags % 256, 0] ++ be2 l.links.length)) := by first | exact ho | (show Owns _ _ _ _ _; simpa using ho)
  clear ho hg HT
  have hX := HX.out.below HB.out hlt
  obtain ⟨c0, c1, c2, c3, c4, c5, c6, c7, c8, c9, c10, c11⟩ := hX
  go_wp2_with fail
  clear c0 c1 c2 c3 c4 c5 c6 c7 c8 c9 c10 c11
  go_loopw [3, 4, 5] (fun v t _ wr => ∃ (k : Nat) (zs : List Int) (n gk cp : Nat), v = .slice (some ⟨gk, 0, none⟩) n cp ∧ t = .int .i64 k ∧ k ≤ l.links.length ∧ Hid (n = zs.length) ∧ Hid (zs = (hd ++ [l.flags % 256, 0] ++ be2 l.links.length) ++ (l.links.take k).flatMap linkZ) ∧ Hid (zs.length ≤ 24 + k * 12) ∧ Hid (Owns wr N gk cp zs) ∧ Hid (Below N W wr)) (fun _ t _ _ => l.links.length - (intOf t).toNat)
  case atStart => exact ⟨0, _, _, _, _, rfl, rfl, by omega, by show _ = _; rw [List.length_append, List.length_append, HHL.out]; rfl, by show _ = _; simp, by show _ ≤ _; rw [List.length_append, List.length_append, HHL.out]; simp [be2], HO.out, HB.out⟩
  case round =>
    clear HO HB
    obtain ⟨k, zs, n, gk, cp, rfl, rfl, hk, hn, hz, hzl, ho, hb⟩ := hrel
    have hX := HX.out.below hb.out hlt
    obtain ⟨c0, c1, c2, c3, c4, c5, c6, c7, c8, c9, c10, c11⟩ := hX
    by_cases hltk : k < l.links.length
    · have hzb : zs.length ≤ 13000000 := by have := hzl.out; omega
      obtain ⟨b, off, hra, r0, r1, r2, r3⟩ := Links.cells (HH.out.below (H0.out.trans (hb.out.mono (Nat.le_of_lt hlt)))).hl k hltk
      rw [hra] at c8
      have HLB : Hid (LBox (wr.alloc (.cells #[.int .i64 l.links[k].kind, .int .i64 l.links[k].id, .int .i64 l.links[k].data, .int .i64 l.links[k].cost] 93)) wr.heap.size l.links[k]) := lbox_new wr l.links[k]
      have HLT : Hid (wr.heap.size < (wr.alloc (.cells #[.int .i64 l.links[k].kind, .int .i64 l.links[k].id, .int .i64 l.links[k].data, .int .i64 l.links[k].cost] 93)).heap.size) := by show _ < _; simp
      have HNE : Hid (wr.heap.size ≠ gk) := by have := ho.out.lt; show _ ≠ _; omega
      have HB4 : Hid (Below N W (wr.alloc (.cells #[.int .i64 l.links[k].kind, .int .i64 l.links[k].id, .int .i64 l.links[k].data, .int .i64 l.links[k].cost] 93))) := hb.out.alloc ho.out.more _
      have HO4 : Hid (Owns (wr.alloc (.cells #[.int .i64 l.links[k].kind, .int .i64 l.links[k].id, .int .i64 l.links[k].data, .int .i64 l.links[k].cost] 93)) N gk cp zs) := ho.out.alloc _
      go_upto_region 10 with fail
      generalize wr.alloc (.cells #[.int .i64 l.links[k].kind, .int .i64 l.links[k].id, .int .i64 l.links[k].data, .int .i64 l.links[k].cost] 93) = V at *
      generalize wr.heap.size = nL at *
      have HG4 : Hid (Grew V V gk gk) := Grew.refl _ _
      clear ho hb r0 r1 r2 r3 hra c0 c1 c2 c3 c4 c5 c6 c7 c8 c9 c10 c11
      obtain ⟨x0, x1, x2, x3⟩ := HLB.out.grew HG4.out HLT.out (HNE.out)
      go_wp2_with fail
      refine (dfour_any _ _).mono ?_
      rintro e w5 ⟨rfl, ho, hb⟩
      have HT : Hid (Bts w5 _ (be4 l.links[k].id)) := ho.bts
      have HB5 : Hid (Below N W w5) := below_more HB4.out hb HO4.out.more
      have HO5 : Hid (Owns w5 N gk cp zs) := HO4.out.below hb
      have HG5 : Hid (Grew V w5 gk gk) := HG4.out.trans (Grew.belowG _ hb)
      clear ho hb x0 x1 x2 x3 HB4 HO4 HG4
      go_wp2_with (at_builtin; go_must (refine wp_append_at w5 rfl _ _ rfl N gk cp zs _ rfl hn.out HO5.out _ _ _ rfl (be4 l.links[k].id) rfl HT.out (by simp [be4]; omega) HO5.out.more ?_))
      intro g6 cp6 w6 ho hg hp
      have HB6 : Hid (Below N W w6) := HB5.out.trans (grown_below HO5.out hg)
      have HO6 : Hid (Owns w6 N g6 cp6 (zs ++ be4 l.links[k].id)) := by first | exact ho | (show Owns _ _ _ _ _; simpa using ho)
      have HG6 : Hid (Grew V w6 gk g6) := HG5.out.trans (Grew.of hg hp)
      clear ho hg hp HT HB5 HO5 HG5
      obtain ⟨x0, x1, x2, x3⟩ := HLB.out.grew HG6.out HLT.out (HNE.out)
      go_wp2_with fail
      refine (dfour_any _ _).mono ?_
      rintro e w7 ⟨rfl, ho, hb⟩
      have HT : Hid (Bts w7 _ (be4 l.links[k].data)) := ho.bts
      have HB7 : Hid (Below N W w7) := below_more HB6.out hb HO6.out.more
      have HO7 : Hid (Owns w7 N g6 cp6 (zs ++ be4 l.links[k].id)) := HO6.out.below hb
      have HG7 : Hid (Grew V w7 gk g6) := HG6.out.trans (Grew.belowG _ hb)
      clear ho hb x0 x1 x2 x3 HB6 HO6 HG6
      go_wp2_with (at_builtin; go_must (refine wp_append_at w7 rfl _ _ rfl N g6 cp6 (zs ++ be4 l.links[k].id) _ rfl (by rw [List.length_append, ← hn.out]; rfl) HO7.out _ _ _ rfl (be4 l.links[k].data) rfl HT.out (by simp [be4]; omega) HO7.out.more ?_))
      intro g8 cp8 w8 ho hg hp
      have HB8 : Hid (Below N W w8) := HB7.out.trans (grown_below HO7.out hg)
      have HO8 : Hid (Owns w8 N g8 cp8 ((zs ++ be4 l.links[k].id) ++ be4 l.links[k].data)) := by first | exact ho | (show Owns _ _ _ _ _; simpa using ho)
      have HG8 : Hid (Grew V w8 gk g8) := HG7.out.trans (Grew.of hg hp)
      clear ho hg hp HT HB7 HO7 HG7
      obtain ⟨x0, x1, x2, x3⟩ := HLB.out.grew HG8.out HLT.out (HNE.out)
      go_wp2_with (at_builtin; go_must (refine wp_append_at _ rfl _ _ rfl N g8 cp8 (zs ++ be4 l.links[k].id ++ be4 l.links[k].data) _ rfl (by rw [List.length_append, List.length_append, ← hn.out]; rfl) (HO8.out.alloc _) _ _ _ rfl [l.links[k].kind % 256, 0] rfl (bts_two _ _ _) (by simp [be4]; omega) (by have := HO8.out.more; simp; omega) ?_))
      intro g9 cp9 w9 ho hg hp
      have HB9 : Hid (Below N W w9) := below_append HB8.out HO8.out hg
      have HO9 : Hid (Owns w9 N g9 cp9 (zs ++ be4 l.links[k].id ++ be4 l.links[k].data ++ [l.links[k].kind % 256, 0])) := by first | exact ho | (show Owns _ _ _ _ _; simpa using ho)
      have HG9 : Hid (Grew V w9 gk g9) := HG8.out.trans ((Grew.new g8 _).trans (Grew.of hg (by simpa using hp)))
      clear ho hg hp x0 x1 x2 x3 HB8 HO8 HG8
      obtain ⟨x0, x1, x2, x3⟩ := HLB.out.grew HG9.out HLT.out (HNE.out)
      go_wp2_with fail
      refine (dtwo_any _ _).mono ?_
      rintro e w10 ⟨rfl, ho, hb⟩
      have HT : Hid (Bts w10 _ (be2 l.links[k].cost)) := ho.bts
      have HB10 : Hid (Below N W w10) := below_more HB9.out hb HO9.out.more
      have HO10 : Hid (Owns w10 N g9 cp9 (zs ++ be4 l.links[k].id ++ be4 l.links[k].data ++ [l.links[k].kind % 256, 0])) := HO9.out.below hb
      have HG10 : Hid (Grew V w10 gk g9) := HG9.out.trans (Grew.belowG _ hb)
      clear ho hb x0 x1 x2 x3 HB9 HO9 HG9
      go_wp2_with (at_builtin; go_must (refine wp_append_at w10 rfl _ _ rfl N g9 cp9 (zs ++ be4 l.links[k].id ++ be4 l.links[k].data ++ [l.links[k].kind % 256, 0]) _ rfl (by rw [List.length_append, List.length_append, List.length_append, ← hn.out]; rfl) HO10.out _ _ _ rfl (be2 l.links[k].cost) rfl HT.out (by simp [be2, be4]; omega) HO10.out.more ?_))
      intro g11 cp11 w11 ho hg hp
      have HB11 : Hid (Below N W w11) := HB10.out.trans (grown_below HO10.out hg)
      have HO11 : Hid (Owns w11 N g11 cp11 ((zs ++ be4 l.links[k].id ++ be4 l.links[k].data ++ [l.links[k].kind % 256, 0]) ++ be2 l.links[k].cost)) := by first | exact ho | (show Owns _ _ _ _ _; simpa using ho)
      have HG11 : Hid (Grew V w11 gk g11) := HG10.out.trans (Grew.of hg hp)
      clear ho hg hp HT HB10 HO10 HG10
      have HZe : zs ++ be4 l.links[k].id ++ be4 l.links[k].data ++ [l.links[k].kind % 256, 0] ++ be2 l.links[k].cost = zs ++ linkZ l.links[k] := by unfold linkZ; simp
      rw [HZe] at HO11
      have HNk : Hid (n + 4 + 4 + 2 + 2 = (zs ++ linkZ l.links[k]).length) := by show _ = _; rw [List.length_append, ← hn.out]; rfl
      have HZk : Hid (zs ++ linkZ l.links[k] = (hd ++ [l.flags % 256, 0] ++ be2 l.links.length) ++ (l.links.take (k + 1)).flatMap linkZ) := by show _ = _; rw [hz.out, take_flat linkZ l.links k hltk]; simp
      have HLk : Hid ((zs ++ linkZ l.links[k]).length ≤ 24 + (k + 1) * 12) := by show _ ≤ _; have := hzl.out; have := hn.out; have := HNk.out; omega
      clear hn hz hzl hzb HZe HG11 HLB HLT HNE
      go_wp2
      go_roundw
      case rel => exact ⟨k + 1, _, _, g11, cp11, rfl, by go_num, by omega, HNk.out, HZk.out, HLk.out, HO11.out, HB11.out⟩
      case measure => simp [intOf]; omega
    · obtain rfl : k = l.links.length := by omega
      have hzz : zs = hd ++ (([l.flags % 256, 0] ++ be2 l.links.length) ++ l.links.flatMap linkZ) := by have := hz.out; rw [List.take_length] at this; rw [this]; simp
      have HO2 : Hid (Owns wr N gk cp (layZ l)) := by rw [HLY.out, HE.out]; exact hzz ▸ ho.out
      have HN2 : Hid (n = (layZ l).length) := by show _ = _; rw [HLY.out, HE.out, hn.out, hzz]
      have HBE : Hid (Below w.heap.size w wr) := H0.out.trans (hb.out.mono (Nat.le_of_lt hlt))
      clear hzz hz ho hn hzl
      go_wp2
      go_ret
      exact ⟨_, _, ret_slice HN2.out, HO2.out.base (Nat.le_of_lt hlt), HBE.out⟩
theorem dbytes_any (s : Seats) (l : LsaZ) (w : World) (hH : Held w s l) (hf : Mid l) :
    Calls Try.prog 43 #[.agg (lsaA s l)] w fun e w' => ∃ g cp, e = .returned (.slice (some ⟨g, 0, none⟩) (layZ l).length cp) ∧ Owns w' w.heap.size g cp (layZ l) ∧ Below w.heap.size w w' := by
  by_cases h1 : l.head.kind = 1
  · exact dbytes_1 s l w hH hf h1
  · by_cases h2 : l.head.kind = 2
    · exact dbytes_2 s l w hH hf h2
    · by_cases h6 : l.head.kind = 6
      · exact dbytes_6 s l w hH hf h6
      · exact dbytes_none s l w hH hf h1 h2 h6
end Go.Proofs.Ytmcemhkhgccojaa
