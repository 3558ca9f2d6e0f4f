/- Who has no Prio is never elected; who is alone with one is. -/
import Derived.Test.YtioimebfenklkaaE10H
import Derived.Test.YtioimebfenklkaaE10B
namespace Go.Proofs.Ytioimebfenklkaa
open Go.RowKit
set_option linter.unusedVariables false

def noneAt (i : Nat) (x : CandZ) : CandZ := ⟨x.id, 100 + (i : Int), if 0 < x.prio then 0 else x.prio, x.dr, x.bdr⟩
def noneZ (l : List CandZ) (n : Nat) : List CandZ := (List.range n).map fun j => noneAt j (l.getD j zeroK)
theorem noneZ_len (l : List CandZ) (n : Nat) : (noneZ l n).length = n := by simp [noneZ]
theorem noneZ_more (l : List CandZ) (i : Nat) (hi : i < l.length) : noneZ l (i + 1) = noneZ l i ++ [noneAt i l[i]] := by
  unfold noneZ
  rw [List.range_succ, List.map_append]
  simp [List.getD_eq_getElem?_getD, List.getElem?_eq_getElem hi]
theorem noneZ_at (l : List CandZ) (n k : Nat) (hk : k < n) : (noneZ l n)[k]'(by rw [noneZ_len]; exact hk) = noneAt k (l.getD k zeroK) := by simp [noneZ]
theorem noneZ_prio (l : List CandZ) (n : Nat) : ∀ x ∈ noneZ l n, x.prio ≤ 0 := fun x hx => by
  obtain ⟨j, _, rfl⟩ := List.mem_map.1 hx
  unfold noneAt
  show (if _ then _ else _) ≤ (0 : Int)
  split <;> omega
theorem turned_no {c : CandZ} {dr bdr : Int} (h1 : ¬ dr = c.addr) (h2 : ¬ c.dr = c.addr) (h3 : ¬ bdr = c.addr) (h4 : ¬ c.bdr = c.addr) : turnedZ c dr bdr = false := by
  unfold turnedZ
  rw [beq_false_of_ne h1, beq_false_of_ne h2, beq_false_of_ne h3, beq_false_of_ne h4]; rfl
theorem nobody (l : List CandZ) (h : ∀ x ∈ l, x.prio ≤ 0) : electZ ⟨1, 50, 0, 0, 0⟩ l = (0, 0) := by
  have hn : ∀ x ∈ (⟨1, 50, 0, 0, 0⟩ : CandZ) :: l, x.prio ≤ 0 := fun x hx => by
    rcases List.mem_cons.1 hx with rfl | hx
    · exact Int.le_refl _
    · exact h x hx
  have hb : bdrZ (heardZ ⟨1, 50, 0, 0, 0⟩ l) = 0 := bdr_none (fun x hx hp => by have := hn x hx; have := hp.1; omega) (fun x hx hp => by have := hn x hx; have := hp.1; omega)
  have hd : drZ (heardZ ⟨1, 50, 0, 0, 0⟩ l) = 0 := by rw [dr_none (fun x hx hp => by have := hn x hx; have := hp.1; omega), hb]
  unfold electZ
  rw [hb, hd, turned_no (by simp) (by simp) (by simp) (by simp)]; rfl
theorem alone (l : List CandZ) (h : ∀ x ∈ l, x.prio ≤ 0) : electZ ⟨1, 50, 1, 0, 0⟩ l = (50, 0) := by
  have hb : bdrZ (heardZ ⟨1, 50, 1, 0, 0⟩ l) = 50 := by
    refine bdr_oth (t := ⟨1, 50, 1, 0, 0⟩) (fun x hx hp => ?_) (by simp) ⟨by simp, by simp, by simp⟩ (fun x hx hp => ?_)
    · rcases List.mem_cons.1 hx with rfl | hx
      · exact absurd hp.2.2 (by simp)
      · have := h x hx; have := hp.1; omega
    · rcases List.mem_cons.1 hx with rfl | hx
      · exact LeC.refl _
      · have := h x hx; have := hp.1; omega
  have hd : drZ (heardZ ⟨1, 50, 1, 0, 0⟩ l) = 50 := by
    rw [dr_none (fun x hx hp => ?_), hb]
    rcases List.mem_cons.1 hx with rfl | hx
    · exact absurd hp.2 (by simp)
    · have := h x hx; have := hp.1; omega
  have hb2 : bdrZ (heardZ ⟨1, 50, 1, 50, 50⟩ l) = 0 := by
    refine bdr_none (fun x hx hp => ?_) (fun x hx hp => ?_)
    · rcases List.mem_cons.1 hx with rfl | hx
      · exact absurd rfl hp.2.1
      · have := h x hx; have := hp.1; omega
    · rcases List.mem_cons.1 hx with rfl | hx
      · exact absurd rfl hp.2.1
      · have := h x hx; have := hp.1; omega
  have hd2 : drZ (heardZ ⟨1, 50, 1, 50, 50⟩ l) = 50 := by
    refine dr_des (t := ⟨1, 50, 1, 50, 50⟩) (by simp) ⟨by simp, rfl⟩ (fun x hx hp => ?_)
    rcases List.mem_cons.1 hx with rfl | hx
    · exact LeC.refl _
    · have := h x hx; have := hp.1; omega
  unfold electZ
  rw [hb, hd]
  have : turnedZ ⟨1, 50, 1, 0, 0⟩ 50 50 = true := by decide
  rw [this]
  show (if true = true then (drZ (heardZ ⟨1, 50, 1, 50, 50⟩ l), bdrZ (heardZ ⟨1, 50, 1, 50, 50⟩ l)) else (50, 50)) = (50, 0)
  rw [hb2, hd2]; rfl
theorem lone (l : List CandZ) (k : Nat) (t : CandZ) (ht : t ∈ l) (ha : t.addr = 100 + (k : Int)) (hp : 0 < t.prio) (hd : t.dr = 0) (hb : t.bdr = 0) (h : ∀ x ∈ l, x = t ∨ x.prio ≤ 0) : electZ ⟨1, 50, 0, 0, 0⟩ l = (100 + (k : Int), 100 + (k : Int)) := by
  have hall : ∀ x ∈ (⟨1, 50, 0, 0, 0⟩ : CandZ) :: l, 0 < x.prio → x = t := fun x hx hx0 => by
    rcases List.mem_cons.1 hx with rfl | hx
    · exact absurd hx0 (by simp)
    · exact (h x hx).resolve_right (by omega)
  have hbb : bdrZ (heardZ ⟨1, 50, 0, 0, 0⟩ l) = t.addr := by
    refine bdr_oth (t := t) (fun x hx hq => ?_) (by simp [ht]) ⟨hp, by rw [hd, ha]; omega, by rw [hb, ha]; omega⟩ (fun x hx hq => ?_)
    · have := hall x hx hq.1
      subst this
      have := hq.2.2
      rw [hb, ha] at this; omega
    · rw [hall x hx hq.1]; exact LeC.refl _
  have hdd : drZ (heardZ ⟨1, 50, 0, 0, 0⟩ l) = t.addr := by
    rw [dr_none (fun x hx hq => ?_), hbb]
    have := hall x hx hq.1
    subst this
    have := hq.2
    rw [hd, ha] at this; omega
  unfold electZ
  rw [hbb, hdd, ha, turned_no (by show ¬ _ = (50 : Int); omega) (by simp) (by show ¬ _ = (50 : Int); omega) (by simp)]; rfl
set_option maxHeartbeats 6400000 in
theorem electNone_walk (a : Option Addr) (cap : Nat) (l : List CandZ) (p : Int) (hp : 0 ≤ p ∧ p ≤ 255) (w : World) (hL : Lies w a (cellsOf candC l)) (hm : l.length ≤ maxLen) :
    Calls Try.prog 7 #[.slice a l.length cap, .int .u8 p] w (Good w) := by
  have HL : Hid (Lies w a (cellsOf candC l)) := hL
  clear hL
  by_cases h20 : 20 < l.length
  · go_enter Try.func7, Try.ntmps7
    go_wp2_with fail
    refine (awake_good _).mono ?_
    rintro e w1 hg
    have hg' := hg.more (Below.refl _ _)
    obtain ⟨rfl, -⟩ := hg
    go_wp2
    go_ret
    exact hg'
  have HN : Hid (l.length ≤ 20) := by show _ ≤ _; omega
  go_enter Try.func7, Try.ntmps7
  go_wp2_with fail
  go_loopw [5, 6] (fun u t wr => ∃ i : Nat, i ≤ l.length ∧ t = .int .i64 i ∧ Hid (OwnC wr w.heap.size u (noneZ l i)) ∧ Hid (Below w.heap.size w wr)) (fun _ t _ => l.length - (intOf t).toNat)
  case atStart => exact ⟨0, by omega, rfl, ownC_nil _ _, Below.refl _ _⟩
  case round =>
    obtain ⟨i, hi, rfl, HO, HB⟩ := hrel
    have hln := HN.out
    by_cases hlt : i < l.length
    · have hki : (i : Int) < (l.length : Int) := by omega
      obtain ⟨b, off, rfl, c0, c1, c2, c3, c4⟩ := Cands.cells (HL.out.below HB.out) i hlt
      have HM : Hid (noneZ l (i + 1) = noneZ l i ++ [noneAt i l[i]]) := noneZ_more l i hlt
      obtain ⟨x, hx⟩ : ∃ x, l[i] = x := ⟨_, rfl⟩
      rw [hx] at c0 c1 c2 c3 c4 HM
      clear hx
      go_upto_region 10 with fail
      clear c0 c1 c2 c3 c4
      have HY : Hid (Var (wr.alloc (.cells (candA (noneAt i x)) 23)) wr.heap.size (candC (noneAt i x))) := var_new wr (candC (noneAt i x)) _
      have HO2 : Hid (OwnC (wr.alloc (.cells (candA (noneAt i x)) 23)) w.heap.size u5 (noneZ l i)) := HO.out.below (below_new' _ _)
      have HB2 : Hid (Below w.heap.size w (wr.alloc (.cells (candA (noneAt i x)) 23))) := HB.out.alloc HB.out.size _
      show Code.wp _ _ _ _ (wr.alloc (.cells (candA (noneAt i x)) 23))
      clear HO HB
      generalize wr.alloc (.cells (candA (noneAt i x)) 23) = V at *
      obtain ⟨y, hy⟩ : ∃ y, noneAt i x = y := ⟨_, rfl⟩
      rw [hy] at HY HM
      clear hy
      generalize (if 0 < x.prio then (0 : Int) else x.prio) = mm at *
      have d0 := HY.out.cell 0 rfl
      have d1 := HY.out.cell 1 rfl
      have d2 := HY.out.cell 2 rfl
      have d3 := HY.out.cell 3 rfl
      have d4 := HY.out.cell 4 rfl
      have hsz := HB2.out.size
      have hnl : (noneZ l i).length + 1 ≤ 1000000 := by rw [noneZ_len]; omega
      go_wp2_with (at_builtin; go_must (refine wp_append_cand V _ rfl rfl _ _ rfl w.heap.size u5 _ rfl HO2.out y rfl hnl hsz ?_))
      intro v' w3 ho hb
      have HO3 : Hid (OwnC w3 w.heap.size v' (noneZ l (i + 1))) := by show OwnC _ _ _ _; rw [HM.out]; exact ho
      have HB3 : Hid (Below w.heap.size w w3) := HB2.out.trans hb
      clear ho hb d0 d1 d2 d3 d4 HB2 HO2 HY HM
      go_wp2
      go_roundw
      case rel => exact ⟨i + 1, by omega, by go_num, HO3.out, HB3.out⟩
      case measure => simp [intOf]; omega
    · have hke : i = l.length := by omega
      subst hke
      have hnl : ¬ ((l.length : Int) < (l.length : Int)) := by omega
      obtain ⟨am, cm, hu, hlm, hnm, hlc, hg⟩ := OwnC.more HO.out
      rw [noneZ_len] at hu hlc
      subst hu
      have CE := elect_any ⟨1, 50, 0, 0, 0⟩ am l.length cm (noneZ l l.length) wr (noneZ_len l _).symm hlm (by rw [noneZ_len]; omega)
      have CF := fun W2 (h : Below wr.heap.size wr W2) => elect_any ⟨1, 50, 1, 0, 0⟩ am l.length cm (noneZ l l.length) W2 (noneZ_len l _).symm (hlm.below h) (by rw [noneZ_len]; omega)
      unfold ElectEnd at CE CF
      rw [nobody _ (noneZ_prio l _)] at CE
      simp only [alone _ (noneZ_prio l _)] at CF
      go_wp2_with fail
      refine CE.mono ?_
      rintro e w1 ⟨rfl, hb⟩
      have HB1 : Hid (Below w.heap.size w w1) := below_more HB.out hb HB.out.size
      have HO1 : Hid (OwnC w1 w.heap.size (.slice am l.length cm) (noneZ l l.length)) := HO.out.below hb
      have CF1 := CF w1 hb
      clear CF CE hb HO HB hlm
      go_wp2_with fail
      refine CF1.mono ?_
      rintro e w2 ⟨rfl, hb⟩
      have HB2 : Hid (Below w.heap.size w w2) := below_more HB1.out hb HB1.out.size
      have HO2 : Hid (OwnC w2 w.heap.size (.slice am l.length cm) (noneZ l l.length)) := HO1.out.below hb
      clear CF1 hb HB1 HO1
      by_cases h0 : l.length = 0
      · have h0i : ¬ (0 : Int) < (l.length : Int) := by omega
        go_wp2_with fail
        refine (awake_good _).mono ?_
        rintro e w3 hg3
        have hg' := hg3.more HB2.out
        obtain ⟨rfl, -⟩ := hg3
        go_wp2
        go_ret
        exact hg'
      have h0i : (0 : Int) < (l.length : Int) := by omega
      obtain ⟨K, hK, hKl⟩ : ∃ K : Nat, p % (l.length : Int) = (K : Int) ∧ K < l.length := by
        have h1 := Int.emod_nonneg p (show (l.length : Int) ≠ 0 by omega)
        have h2 := Int.emod_lt_of_pos p h0i
        exact ⟨(p % (l.length : Int)).toNat, by omega, by omega⟩
      go_upto_region 15 with fail
      rw [hK]
      clear hK
      have hKI : (K : Int) < (l.length : Int) := by omega
      obtain ⟨g, rfl⟩ : ∃ g, am = some ⟨g, 0, none⟩ := by
        obtain ⟨a', c', e, hl2, -, -, hg2⟩ := OwnC.more HO2.out
        rw [noneZ_len] at e
        cases e
        rcases hl2 with h | ⟨b, off, h, -⟩
        · have := cands_len (noneZ l l.length); rw [h, noneZ_len] at this; simp at this; omega
        · obtain ⟨g, e, -⟩ := hg2 _ h
          exact ⟨g, by rw [h, e]⟩
      clear hg hnm
      have hgb : w.heap.size ≤ g ∧ g < w2.heap.size := World.ownsRow.lt HO2.out g rfl
      have hKn : K < (noneZ l l.length).length := by rw [noneZ_len]; exact hKl
      obtain ⟨y, hy⟩ : ∃ y, (noneZ l l.length)[K] = y := ⟨_, rfl⟩
      have hya : y.addr = 100 + (K : Int) := by rw [← hy, noneZ_at l _ K hKl]; rfl
      have k0 := OwnC.cells HO2.out K hKn
      rw [hy] at k0
      obtain ⟨-, -, k2, k3, k4⟩ := k0
      obtain ⟨hO3, f2, -⟩ := OwnC.put HO2.out K 2 hKn (by omega) ({ y with prio := 7 } : CandZ) (.int .i64 7) (by rw [hy]; rfl)
      obtain ⟨-, f3, -⟩ := OwnC.put HO2.out K 3 hKn (by omega) ({ y with dr := 0 } : CandZ) (.int .i64 0) (by rw [hy]; rfl)
      obtain ⟨-, f4, -⟩ := OwnC.put HO2.out K 4 hKn (by omega) ({ y with bdr := 0 } : CandZ) (.int .i64 0) (by rw [hy]; rfl)
      obtain ⟨hO4, -, -⟩ := OwnC.put hO3 K 3 (by simpa using hKn) (by omega) ({ y with prio := 7, dr := 0 } : CandZ) (.int .i64 0) (by simp; rfl)
      obtain ⟨hO5, -, -⟩ := OwnC.put hO4 K 4 (by simpa using hKn) (by omega) ({ y with prio := 7, dr := 0, bdr := 0 } : CandZ) (.int .i64 0) (by simp; rfl)
      simp only [List.set_set] at hO5
      have HB5 : Hid (Below w.heap.size w (((w2.setCell ⟨g, K * 5 + 2, none⟩ (.int .i64 7)).setCell ⟨g, K * 5 + 3, none⟩ (.int .i64 0)).setCell ⟨g, K * 5 + 4, none⟩ (.int .i64 0))) := by
        have h2 : w.heap.size ≤ (⟨g, K * 5 + 2, none⟩ : Addr).block := hgb.1
        have h3 : w.heap.size ≤ (⟨g, K * 5 + 3, none⟩ : Addr).block := hgb.1
        have h4 : w.heap.size ≤ (⟨g, K * 5 + 4, none⟩ : Addr).block := hgb.1
        exact ((HB2.out.setCell h2 _).setCell h3 _).setCell h4 _
      have hlone : electZ ⟨1, 50, 0, 0, 0⟩ ((noneZ l l.length).set K { y with prio := 7, dr := 0, bdr := 0 }) = (100 + (K : Int), 100 + (K : Int)) := by
        have hmem : ({ y with prio := 7, dr := 0, bdr := 0 } : CandZ) ∈ (noneZ l l.length).set K { y with prio := 7, dr := 0, bdr := 0 } := List.mem_iff_getElem.2 ⟨K, by rw [List.length_set]; exact hKn, List.getElem_set_self _⟩
        refine lone _ K _ hmem hya (by show (0 : Int) < 7; omega) rfl rfl (fun x hx => ?_)
        rcases List.mem_or_eq_of_mem_set hx with h | h
        · exact .inr (noneZ_prio l _ x h)
        · exact .inl h
      have hlen5 : ((noneZ l l.length).set K { y with prio := 7, dr := 0, bdr := 0 }).length = l.length := by simp [noneZ_len]
      have HO5 : Hid (OwnC (((w2.setCell ⟨g, K * 5 + 2, none⟩ (.int .i64 7)).setCell ⟨g, K * 5 + 3, none⟩ (.int .i64 0)).setCell ⟨g, K * 5 + 4, none⟩ (.int .i64 0)) w.heap.size (.slice (some ⟨g, 0, none⟩) l.length cm) ((noneZ l l.length).set K { y with prio := 7, dr := 0, bdr := 0 })) := hO5
      have CL : ∀ W, OwnC W w.heap.size (.slice (some ⟨g, 0, none⟩) l.length cm) ((noneZ l l.length).set K { y with prio := 7, dr := 0, bdr := 0 }) → Calls Try.prog 10 #[.agg (candA ⟨1, 50, 0, 0, 0⟩), .slice (some ⟨g, 0, none⟩) l.length cm] W (fun e w' => e = .returned (.tuple #[.int .i64 (100 + (K : Int)), .int .i64 (100 + (K : Int))]) ∧ Below W.heap.size W w') := by
        intro W hW
        obtain ⟨a', c', e, h, -⟩ := OwnC.more hW
        rw [hlen5] at e
        cases e
        have := elect_any ⟨1, 50, 0, 0, 0⟩ (some ⟨g, 0, none⟩) l.length cm _ W hlen5.symm h (by rw [hlen5]; omega)
        unfold ElectEnd at this
        rw [hlone] at this
        exact this
      have CL5 := CL _ HO5.out
      clear hO3 hO4 hO5 hlone HO5 CL HO2 hya hy hKn
      go_wp2_with fail
      refine CL5.mono ?_
      rintro e w6 ⟨rfl, hb⟩
      have HB6 : Hid (Below w.heap.size w w6) := below_more HB5.out hb HB5.out.size
      clear hb CL5 HB5 k2 k3 k4 f2 f3 f4
      go_wp2_with fail
      refine (awake_good _).mono ?_
      rintro e w7 hg7
      have hg' := hg7.more HB6.out
      obtain ⟨rfl, -⟩ := hg7
      go_wp2
      go_ret
      exact hg'
end Go.Proofs.Ytioimebfenklkaa
