/- The walk of SumTails. -/
import Derived.Test.YtfkcmchpddpmgaaS2W6
import Derived.Test.YtfkcmchpddpmgaaOZ
namespace Go.Proofs.Ytfkcmchpddpmgaa
open Go.RowKit

theorem areBytes_one {L : List Int} (h : AreBytes L) : AreBytes (L ++ [0]) := fun z hz => by
  simp at hz
  rcases hz with hz | rfl
  · exact h z hz
  · omega
theorem areBytes_zeros {L : List Int} (h : AreBytes L) (k : Nat) : AreBytes (L ++ List.replicate k 0) := fun z hz => by
  simp only [List.mem_append, List.mem_replicate] at hz
  rcases hz with hz | ⟨_, rfl⟩
  · exact h z hz
  · omega
theorem inet_odd (L : List Int) (h : L.length % 2 = 1) : inetZ (L ++ [0]) = inetZ L := by unfold inetZ; rw [wordsZ_odd L h]
theorem inet_zeros (L : List Int) (k : Nat) (h : L.length % 2 = 0) : inetZ (L ++ List.replicate k 0) = inetZ L := by unfold inetZ; rw [wordsZ_even _ _ h, wordsZ_zeros]; simp

set_option maxHeartbeats 800000 in
theorem sumTails_walk (a : Option Addr) (cap : Nat) (zs : List Int) (n : Int) (w : World) (hB : Bts w a zs) (hz : AreBytes zs) (hc : zs.length ≤ cap) (hm : zs.length ≤ maxLen) (h0 : a = none → cap = 0)
    (hn : 0 ≤ n ∧ n ≤ 255) :
    Calls Try.prog 7 #[.slice a zs.length cap, .int .u8 n] w fun e w' => e = .returned (.bool true) ∧ Below w.heap.size w w' := by
  unfold maxLen at hm
  by_cases h3 : 3000 < zs.length
  · go_enter Try.func7, Try.ntmps7
    go_wp2_with fail
    refine (awake_any _).mono ?_
    rintro e w2 ⟨rfl, hb2⟩
    go_wp2
    go_ret
    exact ⟨rfl, hb2⟩
  have H0 : Hid (a = none → cap = 0) := h0
  have HZ : Hid (AreBytes zs) := hz
  have cB := fun W (h : Bts W a zs) => inet_at a zs.length cap zs W rfl h hz hc (by omega)
  obtain ⟨k, hk, hk1⟩ := mod_in n 40 (by omega)
  have HK : Hid (n % 40 = (k : Int)) := by show _ = _; simpa using hk
  clear h0 hz hk
  go_enter Try.func7, Try.ntmps7
  go_wp2_with (at_builtin; go_must (refine wp_copy_bytes _ _ rfl rfl _ _ rfl rfl _ _ _ rfl zs rfl hB H0.out (by omega) ?_))
  intro g cp w1 ho1 hb1
  have HB1 : Hid (Below w.heap.size w w1) := hb1
  have HO1 : Hid (Owns w1 w.heap.size g cp zs) := ho1
  have s1 := hb1.size
  clear ho1 hb1
  by_cases par : zs.length % 2 = 1
  · have t1 : ((zs.length : Int) % 2 == 1) = true := by simp; omega
    have HQ : Hid (inetZ (zs ++ [0]) = inetZ zs) := inet_odd zs par
    have HZC : Hid (AreBytes (zs ++ [0])) := areBytes_one HZ.out
    go_wp2_with (at_builtin; go_must (refine wp_append_bytes _ rfl _ _ rfl _ g cp zs zs.length rfl rfl (HO1.out.alloc _) _ _ _ rfl [0] rfl (bts_one _ _) (by simp) (by simp; omega) (by simp; omega) ?_))
    intro g2 cp2 w2 ho2 hg2
    have l1 := HO1.out.lt
    have HO2 : Hid (Owns w2 w.heap.size g2 cp2 (zs ++ [0])) := ho2
    have HB2 : Hid (Below w.heap.size w w2) := (HB1.out.alloc s1 _).grown hg2 (by simp; omega) (fun j hj => by cases hj; omega)
    clear ho2 hg2 HO1 HB1 l1
    have lC : (zs ++ [0]).length = zs.length + 1 := by simp
    generalize zs ++ [0] = cs at *
    have HLC : Hid (cs.length = zs.length + 1) := lC
    have HEV : Hid (cs.length % 2 = 0) := by show _ = _; rw [lC]; omega
    clear lC
    go_wp2_with (at_builtin; go_must (refine wp_copy_bytes _ _ (by simp) rfl _ _ rfl rfl _ _ _ rfl cs (by rw [HLC.out]) HO2.out.bts (by simp) (by rw [HLC.out]; omega) ?_))
    intro g3 cp3 w3 ho3 hb3
    have HB3 : Hid (Below w.heap.size w w3) := below_more HB2.out hb3 HB2.out.size
    have HC3 : Hid (Owns w3 w.heap.size g2 cp2 cs) := HO2.out.below hb3
    have HO3 : Hid (Owns w3 w2.heap.size g3 cp3 cs) := ho3
    have s3 := hb3.size
    have l2 := HO2.out.lt
    clear ho3 hb3
    go_wp2_with (at_builtin; go_must (refine wp_append_zeros _ rfl _ _ rfl _ g3 cp3 cs (zs.length + 1) rfl (by rw [HLC.out]) HO3.out _ rfl k HK.out (by rw [HLC.out]; omega) (by omega) ?_))
    intro g4 cp4 w4 ho4 hg4
    have l3 := HO3.out.lt
    have HC4 : Hid (Owns w4 w.heap.size g2 cp2 cs) := HC3.out.grown hg4 (by omega)
    have HO4 : Hid (Owns w4 w2.heap.size g4 cp4 (cs ++ List.replicate k 0)) := ho4
    have HB4 : Hid (Below w.heap.size w w4) := HB3.out.grown hg4 HB3.out.size (fun j hj => by cases hj; have := HB2.out.size; omega)
    clear ho4 hg4 l2 l3 HB3 HC3 HO3 HB2 HO2
    have cC := fun W (h : Bts W (some ⟨g2, 0, none⟩) cs) => inet_at (some ⟨g2, 0, none⟩) (zs.length + 1) cp2 cs W (by rw [HLC.out]) h HZC.out HC4.out.cap (by rw [HLC.out]; omega)
    have cD := fun W (h : Bts W (some ⟨g4, 0, none⟩) (cs ++ List.replicate k 0)) => inet_at (some ⟨g4, 0, none⟩) (zs.length + 1 + k) cp4 (cs ++ List.replicate k 0) W (by simp [HLC.out]) h (areBytes_zeros HZC.out k) HO4.out.cap (by simp [HLC.out]; omega)
    rw [inet_zeros _ k HEV.out] at cD
    rw [HQ.out] at cC cD
    generalize inetZ zs = S at *
    clear HQ HZC HEV HLC
    go_wp2_with fail
    refine (cB _ (hB.below HB4.out)).mono ?_
    rintro e w5 ⟨rfl, hb5⟩
    have HB5 : Hid (Below w.heap.size w w5) := below_two HB4.out hb5
    have HC5 : Hid (Owns w5 _ g2 cp2 cs) := HC4.out.below hb5
    have HO5 : Hid (Owns w5 _ g4 cp4 (cs ++ List.replicate k 0)) := HO4.out.below hb5
    clear hb5 HB4 HC4 HO4
    go_wp2_with fail
    refine (cC _ HC5.out.bts).mono ?_
    rintro e w6 ⟨rfl, hb6⟩
    have HB6 : Hid (Below w.heap.size w w6) := below_two HB5.out hb6
    have HC6 : Hid (Owns w6 _ g2 cp2 cs) := HC5.out.below hb6
    have HO6 : Hid (Owns w6 _ g4 cp4 (cs ++ List.replicate k 0)) := HO5.out.below hb6
    clear hb6 HB5 HC5 HO5
    go_wp2_with fail
    refine (cD _ HO6.out.bts).mono ?_
    rintro e w7 ⟨rfl, hb7⟩
    have HB7 : Hid (Below w.heap.size w w7) := below_two HB6.out hb7
    have HC7 : Hid (Owns w7 _ g2 cp2 cs) := HC6.out.below hb7
    clear hb7 HB6 HC6 HO6
    go_wp2_with fail
    refine (cC _ HC7.out.bts).mono ?_
    rintro e w8 ⟨rfl, hb8⟩
    have HB8 : Hid (Below w.heap.size w w8) := below_two HB7.out hb8
    clear hb8 HB7 HC7
    go_wp2_with fail
    refine (awake_any _).mono ?_
    rintro e w9 ⟨rfl, hb9⟩
    go_wp2
    go_ret
    exact ⟨rfl, below_two HB8.out hb9⟩
  · have t1 : ((zs.length : Int) % 2 == 1) = false := by simp; omega
    obtain ⟨cs, ecs⟩ : ∃ cs, cs = zs := ⟨_, rfl⟩
    have HQ : Hid (inetZ cs = inetZ zs) := by rw [ecs]; rfl
    have HZC : Hid (AreBytes cs) := by rw [ecs]; exact HZ.out
    have HO2 : Hid (Owns w1 w.heap.size g cp cs) := by rw [ecs]; exact HO1.out
    have lC : cs.length = zs.length := by rw [ecs]
    clear ecs HO1
    have HLC : Hid (cs.length = zs.length) := lC
    have HEV : Hid (cs.length % 2 = 0) := by show _ = _; rw [lC]; omega
    clear lC
    go_wp2_with (at_builtin; go_must (refine wp_copy_bytes _ _ (by simp) rfl _ _ rfl rfl _ _ _ rfl cs (by rw [HLC.out]) HO2.out.bts (by simp) (by rw [HLC.out]; omega) ?_))
    intro g3 cp3 w3 ho3 hb3
    have HB3 : Hid (Below w.heap.size w w3) := below_more HB1.out hb3 HB1.out.size
    have HC3 : Hid (Owns w3 w.heap.size g cp cs) := HO2.out.below hb3
    have HO3 : Hid (Owns w3 w1.heap.size g3 cp3 cs) := ho3
    have s3 := hb3.size
    have l2 := HO2.out.lt
    clear ho3 hb3
    go_wp2_with (at_builtin; go_must (refine wp_append_zeros _ rfl _ _ rfl _ g3 cp3 cs (zs.length) rfl (by rw [HLC.out]) HO3.out _ rfl k HK.out (by rw [HLC.out]; omega) (by omega) ?_))
    intro g4 cp4 w4 ho4 hg4
    have l3 := HO3.out.lt
    have HC4 : Hid (Owns w4 w.heap.size g cp cs) := HC3.out.grown hg4 (by omega)
    have HO4 : Hid (Owns w4 w1.heap.size g4 cp4 (cs ++ List.replicate k 0)) := ho4
    have HB4 : Hid (Below w.heap.size w w4) := HB3.out.grown hg4 HB3.out.size (fun j hj => by cases hj; have := HB1.out.size; omega)
    clear ho4 hg4 l2 l3 HB3 HC3 HO3 HB1 HO2
    have cC := fun W (h : Bts W (some ⟨g, 0, none⟩) cs) => inet_at (some ⟨g, 0, none⟩) (zs.length) cp cs W (by rw [HLC.out]) h HZC.out HC4.out.cap (by rw [HLC.out]; omega)
    have cD := fun W (h : Bts W (some ⟨g4, 0, none⟩) (cs ++ List.replicate k 0)) => inet_at (some ⟨g4, 0, none⟩) (zs.length + k) cp4 (cs ++ List.replicate k 0) W (by simp [HLC.out]) h (areBytes_zeros HZC.out k) HO4.out.cap (by simp [HLC.out]; omega)
    rw [inet_zeros _ k HEV.out] at cD
    rw [HQ.out] at cC cD
    generalize inetZ zs = S at *
    clear HQ HZC HEV HLC
    go_wp2_with fail
    refine (cB _ (hB.below HB4.out)).mono ?_
    rintro e w5 ⟨rfl, hb5⟩
    have HB5 : Hid (Below w.heap.size w w5) := below_two HB4.out hb5
    have HC5 : Hid (Owns w5 _ g cp cs) := HC4.out.below hb5
    have HO5 : Hid (Owns w5 _ g4 cp4 (cs ++ List.replicate k 0)) := HO4.out.below hb5
    clear hb5 HB4 HC4 HO4
    go_wp2_with fail
    refine (cC _ HC5.out.bts).mono ?_
    rintro e w6 ⟨rfl, hb6⟩
    have HB6 : Hid (Below w.heap.size w w6) := below_two HB5.out hb6
    have HC6 : Hid (Owns w6 _ g cp cs) := HC5.out.below hb6
    have HO6 : Hid (Owns w6 _ g4 cp4 (cs ++ List.replicate k 0)) := HO5.out.below hb6
    clear hb6 HB5 HC5 HO5
    go_wp2_with fail
    refine (cD _ HO6.out.bts).mono ?_
    rintro e w7 ⟨rfl, hb7⟩
    have HB7 : Hid (Below w.heap.size w w7) := below_two HB6.out hb7
    have HC7 : Hid (Owns w7 _ g cp cs) := HC6.out.below hb7
    clear hb7 HB6 HC6 HO6
    go_wp2_with fail
    refine (cC _ HC7.out.bts).mono ?_
    rintro e w8 ⟨rfl, hb8⟩
    have HB8 : Hid (Below w.heap.size w w8) := below_two HB7.out hb8
    clear hb8 HB7 HC7
    go_wp2_with fail
    refine (awake_any _).mono ?_
    rintro e w9 ⟨rfl, hb9⟩
    go_wp2
    go_ret
    exact ⟨rfl, below_two HB8.out hb9⟩
end Go.Proofs.Ytfkcmchpddpmgaa
