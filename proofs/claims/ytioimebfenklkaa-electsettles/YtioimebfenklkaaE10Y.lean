/- Routers that begin at once settle. -/
import Derived.Test.YtioimebfenklkaaE10X
namespace Go.Proofs.Ytioimebfenklkaa
open Go.RowKit
set_option linter.unusedVariables false

theorem iter_keeps (zs : List Int) (t : Nat) : ∀ j, j < zs.length → ((iterZ zs t).getD j zeroK).prio = prZ zs j ∧ ((iterZ zs t).getD j zeroK).addr = 11 + (j : Int) := by
  induction t with
  | zero =>
    intro j hj
    show ((freshZ zs zs.length).getD j zeroK).prio = _ ∧ ((freshZ zs zs.length).getD j zeroK).addr = _
    have e : (freshZ zs zs.length).getD j zeroK = freshAt zs j := by simp [freshZ, List.getD_eq_getElem?_getD, hj]
    rw [e]; exact ⟨rfl, rfl⟩
  | succ t ih =>
    intro j hj
    have e : (nextZ (iterZ zs t)).getD j zeroK = nextAt (iterZ zs t) j := by
      have hl : j < (iterZ zs t).length := by rw [iterZ_len]; exact hj
      simp [nextZ, List.getD_eq_getElem?_getD, hl]
    show ((nextZ (iterZ zs t)).getD j zeroK).prio = _ ∧ ((nextZ (iterZ zs t)).getD j zeroK).addr = _
    rw [e]
    exact ih j hj
theorem getD_at (L : List CandZ) (j : Nat) (h : j < L.length) : L.getD j zeroK = L[j] := by rw [List.getD_eq_getElem?_getD, List.getElem?_eq_getElem h]; rfl
theorem prL_iter (zs : List Int) (t j : Nat) (hj : j < zs.length) : prL (iterZ zs t) j = prZ zs j := (iter_keeps zs t j hj).1
theorem last_none {zs : List Int} {t : Nat} (h : LastAt (iterZ zs t) (-1) zs.length 0) : ∀ i (hi : i < (iterZ zs t).length), (iterZ zs t)[i].dr = 0 ∧ (iterZ zs t)[i].bdr = 0 := by
  have hn : ∀ j, j < zs.length → ¬ 0 < prZ zs j := by
    rcases h with ⟨_, h⟩ | ⟨h0, _⟩
    · intro j hj
      rw [← prL_iter zs t j hj]
      exact h j hj (by omega)
    · omega
  intro i hi
  have e := iter_none hn t
  have : (iterZ zs t)[i] = stAt zs (fun _ => 0) (fun _ => 0) i := by simp only [e, stZ_at]
  rw [this]; exact ⟨rfl, rfl⟩
theorem last_a {zs : List Int} {t ka : Nat} (h : LastAt (iterZ zs t) (-1) zs.length ka) (h0 : 0 < ka) : IsA zs zs.length (ka - 1) := by
  rcases h with ⟨rfl, _⟩ | ⟨_, h1, _, h3, h4⟩
  · omega
  · have hlt : ka - 1 < zs.length := by omega
    rw [prL_iter zs t _ hlt] at h3
    refine ⟨hlt, h3, fun j hj hpj => ?_⟩
    have := h4 j hj (by omega) (by rw [prL_iter zs t j hj]; exact hpj)
    rw [prL_iter zs t j hj, prL_iter zs t _ hlt] at this
    exact this
theorem last_b {zs : List Int} {t a kb : Nat} (h : LastAt (iterZ zs t) (a : Int) zs.length kb) : IsBeta zs zs.length a (if kb = 0 then 0 else 11 + ((kb - 1 : Nat) : Int)) := by
  rcases h with ⟨rfl, h⟩ | ⟨h0, h1, h2, h3, h4⟩
  · rw [if_pos rfl]
    refine .inl ⟨rfl, fun j hj hpj => ?_⟩
    by_cases e : j = a
    · exact e
    · exact absurd hpj (by rw [← prL_iter zs t j hj]; exact h j hj (by omega))
  · have hlt : kb - 1 < zs.length := by omega
    rw [if_neg (by omega)]
    rw [prL_iter zs t _ hlt] at h3
    refine .inr ⟨kb - 1, hlt, by omega, h3, rfl, fun j hj hpj hja => ?_⟩
    have := h4 j hj (by omega) (by rw [prL_iter zs t j hj]; exact hpj)
    rw [prL_iter zs t j hj, prL_iter zs t _ hlt] at this
    exact this
theorem last_some {zs : List Int} {t a : Nat} {β : Int} (ht : 2 ≤ t) (hA : IsA zs zs.length a) (hB : IsBeta zs zs.length a β) : ∀ i (hi : i < (iterZ zs t).length), (iterZ zs t)[i].dr = 11 + (a : Int) ∧ (iterZ zs t)[i].bdr = β := by
  intro i hi
  obtain ⟨s, rfl⟩ : ∃ s, t = s + 2 := ⟨t - 2, by omega⟩
  have e := iter_some hA hB s
  have : (iterZ zs (s + 2))[i] = stAt zs (fun _ => 11 + (a : Int)) (fun _ => β) i := by simp only [e, stZ_at]
  rw [this]; exact ⟨rfl, rfl⟩
theorem iter_addr {zs : List Int} {t j : Nat} (hj : j < zs.length) (h : j < (iterZ zs t).length) : (iterZ zs t)[j].addr = 11 + (j : Int) := by
  rw [← getD_at _ _ h]; exact (iter_keeps zs t j hj).2
/-- The first i say already what Elect tells them. -/
def partZ (L : List CandZ) (i : Nat) : List CandZ := (List.range L.length).map fun j => if j < i then nextAt L j else L.getD j zeroK
theorem partZ_len (L : List CandZ) (i : Nat) : (partZ L i).length = L.length := by simp [partZ]
theorem partZ_zero (L : List CandZ) : partZ L 0 = L := by
  apply List.ext_getElem
  · simp [partZ]
  · intro j h1 h2
    simp [partZ, List.getD_eq_getElem?_getD, List.getElem?_eq_getElem h2]
theorem partZ_end (L : List CandZ) : partZ L L.length = nextZ L := by
  unfold partZ nextZ
  apply List.map_congr_left
  intro j hj
  rw [if_pos (by simpa using hj)]
theorem partZ_at (L : List CandZ) (i : Nat) (hi : i < L.length) : (partZ L i)[i]'(by rw [partZ_len]; exact hi) = L[i] := by
  simp [partZ, List.getD_eq_getElem?_getD, List.getElem?_eq_getElem hi]
theorem partZ_more (L : List CandZ) (i : Nat) (hi : i < L.length) : (partZ L i).set i (nextAt L i) = partZ L (i + 1) := by
  apply List.ext_getElem
  · simp [partZ]
  · intro j h1 h2
    rw [List.getElem_set]
    by_cases e : i = j
    · subst e; simp [partZ]
    · rw [if_neg e]
      simp only [partZ, List.getElem_map, List.getElem_range]
      by_cases h : j < i
      · rw [if_pos h, if_pos (by omega)]
      · rw [if_neg h, if_neg (by omega)]
set_option maxHeartbeats 12800000 in
theorem electSettles_walk (a : Option Addr) (cap : Nat) (zs : List Int) (p : Int) (hp : 0 ≤ p ∧ p ≤ 255) (w : World) (hB : Bts w a zs) (hz : AreBytes zs) (hm : zs.length ≤ maxLen) :
    Calls Try.prog 5 #[.slice a zs.length cap, .int .u8 p] w (Good w) := by
  by_cases h12 : 12 < zs.length
  · have h12i : (12 : Int) < (zs.length : Int) := by omega
    clear hB
    go_enter Try.func5, Try.ntmps5
    go_wp2_with fail
    refine (awake_good _).mono ?_
    rintro e w1 hg
    have hg' := hg.more (Below.refl _ _)
    obtain ⟨rfl, -⟩ := hg
    go_wp2
    go_ret
    exact hg'
  have h12i : ¬ (12 : Int) < (zs.length : Int) := by omega
  have HN : Hid (zs.length ≤ 12) := by show _ ≤ _; omega
  have CF := fresh_any a zs.length cap zs w rfl hB hz (by omega)
  clear hB
  obtain ⟨TN, hTN, hT3, hT6⟩ : ∃ TN : Nat, 3 + p % 4 = (TN : Int) ∧ 3 ≤ TN ∧ TN ≤ 6 := ⟨(3 + p % 4).toNat, by omega, by omega, by omega⟩
  have HTN : Hid (3 + p % 4 = (TN : Int)) := hTN
  have HT3 : Hid (3 ≤ TN) := hT3
  clear hTN
  go_enter Try.func5, Try.ntmps5
  go_wp2_with fail
  refine CF.mono ?_
  rintro e w1 ⟨v, rfl, ho, hb⟩
  have HO1 : Hid (OwnC w1 w.heap.size v (iterZ zs 0)) := ho
  have HB1 : Hid (Below w.heap.size w w1) := hb
  clear ho hb CF
  go_wp2_with fail
  go_loopw [5, 6] (fun u t wr => ∃ k : Nat, k ≤ TN ∧ t = .int .i64 k ∧ Hid (OwnC wr w.heap.size u (iterZ zs k)) ∧ Hid (Below w.heap.size w wr)) (fun _ t _ => TN - (intOf t).toNat)
  case atStart => exact ⟨0, by omega, rfl, HO1.out, HB1.out⟩
  case round =>
    clear HO1 HB1
    obtain ⟨k, hk, rfl, HO, HB⟩ := hrel
    by_cases hkt : k < TN
    · have hkI : (k : Int) < 3 + p % 4 := by rw [HTN.out]; omega
      have HIT : Hid (nextZ (iterZ zs k) = iterZ zs (k + 1)) := rfl
      have hLl : (iterZ zs k).length = zs.length := iterZ_len zs k
      generalize iterZ zs k = L at *
      obtain ⟨a5, c5, e5, hl5, hn5, hc5, -⟩ := OwnC.more HO.out
      rw [hLl] at e5
      subst e5
      have HLl : Hid (L.length = zs.length) := hLl
      clear hLl
      generalize wr = w1 at *
      have hL6 : L.length ≤ 1000000 := by rw [HLl.out]; have := HN.out; omega
      go_wp2_with (at_builtin; go_must (refine wp_copy_cands w1 _ rfl rfl _ _ rfl rfl a5 _ _ L rfl HLl.out.symm hl5 hn5 hL6 ?_))
      intro v2 w2 ho2 hb2
      have HP2 : Hid (OwnC w2 w1.heap.size v2 (partZ L 0)) := by show OwnC _ _ _ _; rw [partZ_zero]; exact ho2
      have HB2 : Hid (Below w1.heap.size w1 w2) := hb2
      clear ho2 hb2 hl5 hn5 hc5 hL6
      go_wp2_with fail
      go_loopw [8] (fun t wr => ∃ i : Nat, i ≤ zs.length ∧ t = .int .i64 i ∧ Hid (OwnC wr w1.heap.size v2 (partZ L i)) ∧ Hid (Below w1.heap.size w1 wr)) (fun t _ => zs.length - (intOf t).toNat)
      case atStart => exact ⟨0, by omega, rfl, HP2.out, HB2.out⟩
      case round =>
        clear HP2 HB2
        obtain ⟨i, hi, rfl, HP, HBW⟩ := hrel
        have hn12 := HN.out
        by_cases hlt : i < zs.length
        · have hki : (i : Int) < (zs.length : Int) := by omega
          have hiL : i < L.length := by rw [HLl.out]; exact hlt
          obtain ⟨g5, c5', e, hg5, hg5l⟩ := OwnC.block HO.out (by omega)
          rw [HLl.out] at e
          cases e
          obtain ⟨g7, c7, e, hg7, hg7l⟩ := OwnC.block HP.out (by rw [partZ_len]; omega)
          rw [partZ_len, HLl.out] at e
          subst e
          have HG7 : Hid (w1.heap.size ≤ g7) := hg7
          have HO5 : Hid (∀ X, Below w1.heap.size w1 X → OwnC X w.heap.size (.slice (some ⟨g5, 0, none⟩) zs.length c5) L) := fun X hX => HO.out.below hX
          clear hg7 hg7l hg5 hg5l
          have CO := fun X (hX : Below w1.heap.size w1 X) => others_any (some ⟨g5, 0, none⟩) zs.length c5 L i X HLl.out.symm (OwnC.lies (HO5.out X hX)).2.1 (by rw [HLl.out]; omega)
          have CE := fun (w2 w4 : World) (v : Value) (h : OwnC w4 w2.heap.size v (othZ L i L.length)) (hb : Below w2.heap.size w2 w4) => elect_oth L[i] h hb (by have := othZ_len L i L.length; rw [HLl.out] at this ⊢; omega)
          have HNX : Hid (nextAt L i = saysZ L[i] (electZ L[i] (othZ L i L.length)).1 (electZ L[i] (othZ L i L.length)).2) := by show _ = _; unfold nextAt; rw [getD_at L i hiL]
          have HSET : Hid ((partZ L i).set i (nextAt L i) = partZ L (i + 1)) := partZ_more L i hiL
          have HAT : Hid ((partZ L i)[i]'(by rw [partZ_len]; exact hiL) = L[i]) := partZ_at L i hiL
          have hcell := fun X (hX : Below w1.heap.size w1 X) => OwnC.cells (HO5.out X hX) i hiL
          obtain ⟨x, hx⟩ : ∃ x, L[i] = x := ⟨_, rfl⟩
          rw [hx] at CE HNX HAT
          generalize electZ x (othZ L i L.length) = E at CE HNX
          obtain ⟨dr, bdr⟩ := E
          have hcell2 : Hid (∀ X, Below w1.heap.size w1 X → X.cell? ⟨g5, i * 5, none⟩ = some (.int .i64 x.id) ∧ X.cell? ⟨g5, i * 5 + 1, none⟩ = some (.int .i64 x.addr) ∧ X.cell? ⟨g5, i * 5 + 2, none⟩ = some (.int .i64 x.prio) ∧ X.cell? ⟨g5, i * 5 + 3, none⟩ = some (.int .i64 x.dr) ∧ X.cell? ⟨g5, i * 5 + 4, none⟩ = some (.int .i64 x.bdr) ∧ Hid (Below w1.heap.size w1 X)) := by
            intro X hX
            obtain ⟨e0, e1, e2, e3, e4⟩ := hcell X hX
            rw [hx] at e0 e1 e2 e3 e4
            exact ⟨e0, e1, e2, e3, e4, hX⟩
          have hVd : Hid (Below w1.heap.size w1 wr.drew) := HBW.out.drew
          have hVw : Hid (Below wr.heap.size wr wr.drew) := (Below.refl _ _).drew
          clear hcell hx
          go_upto_region 11 with fail
          go_region_held3 (fun X => X.cell? ⟨g5, i * 5, none⟩ = some (.int .i64 x.id) ∧ X.cell? ⟨g5, i * 5 + 1, none⟩ = some (.int .i64 x.addr) ∧ X.cell? ⟨g5, i * 5 + 2, none⟩ = some (.int .i64 x.prio) ∧ X.cell? ⟨g5, i * 5 + 3, none⟩ = some (.int .i64 x.dr) ∧ X.cell? ⟨g5, i * 5 + 4, none⟩ = some (.int .i64 x.bdr) ∧ Hid (Below w1.heap.size w1 X)) (with_reducible first | exact hcell2.out _ hVd.out | exact hcell2.out _ hb4.out | exact hcell2.out _ hb5.out | assumption) (first
            | (go_at_call 13; refine (CO _ hVd.out).mono ?_; rintro e w4 ⟨v4, rfl, ho4, hbb4⟩; have hb4 : Hid (Below w1.heap.size w1 w4) := below_more hVd.out hbb4 hVd.out.size)
            | (go_at_call 10; refine (CE _ _ _ ho4 hbb4).mono ?_; rintro e w5 ⟨rfl, hbb5⟩; have hb5 : Hid (Below w1.heap.size w1 w5) := below_more hVd.out hbb5.out hVd.out.size; have hp5 : Hid (Below wr.heap.size wr w5) := below_more hVw.out hbb5.out hVw.out.size))
          have HP5 : Hid (OwnC w5 w1.heap.size (.slice (some ⟨g7, 0, none⟩) zs.length c7) (partZ L i)) := HP.out.below hp5.out
          have HB5 : Hid (Below w1.heap.size w1 w5) := hb5
          clear hb4 hb5 hp5 ho4 hbb4 hbb5 CO CE hcell2 hVd hVw HP HBW
          have hpl : i < (partZ L i).length := by rw [partZ_len]; exact hiL
          obtain ⟨-, -, -, k3, k4⟩ := OwnC.cells HP5.out i hpl
          rw [HAT.out] at k3 k4
          obtain ⟨hO3, f3, -⟩ := OwnC.put HP5.out i 3 hpl (by omega) ({ x with dr := dr } : CandZ) (.int .i64 dr) (by rw [HAT.out]; rfl)
          obtain ⟨-, f4, -⟩ := OwnC.put HP5.out i 4 hpl (by omega) ({ x with bdr := bdr } : CandZ) (.int .i64 bdr) (by rw [HAT.out]; rfl)
          obtain ⟨hO4, -, -⟩ := OwnC.put hO3 i 4 (by simpa using hpl) (by omega) (saysZ x dr bdr) (.int .i64 bdr) (by simp; rfl)
          simp only [List.set_set] at hO4
          have hnx : saysZ x dr bdr = nextAt L i := HNX.out.symm
          rw [hnx, HSET.out] at hO4
          have HP6 : Hid (OwnC ((w5.setCell ⟨g7, i * 5 + 3, none⟩ (.int .i64 dr)).setCell ⟨g7, i * 5 + 4, none⟩ (.int .i64 bdr)) w1.heap.size (.slice (some ⟨g7, 0, none⟩) zs.length c7) (partZ L (i + 1))) := hO4
          have HB6 : Hid (Below w1.heap.size w1 ((w5.setCell ⟨g7, i * 5 + 3, none⟩ (.int .i64 dr)).setCell ⟨g7, i * 5 + 4, none⟩ (.int .i64 bdr))) := by
            have h3 : w1.heap.size ≤ (⟨g7, i * 5 + 3, none⟩ : Addr).block := HG7.out
            have h4 : w1.heap.size ≤ (⟨g7, i * 5 + 4, none⟩ : Addr).block := HG7.out
            exact (HB5.out.setCell h3 _).setCell h4 _
          clear hO3 hO4 hnx HP5 HB5 HNX HSET HAT
          go_wp2
          go_roundw
          case rel => exact ⟨i + 1, by omega, by go_num, HP6.out, HB6.out⟩
          case measure => simp [intOf]; omega
        · have hke : i = zs.length := by omega
          subst hke
          have hnl : ¬ ((zs.length : Int) < (zs.length : Int)) := by omega
          have HPE : Hid (OwnC wr w.heap.size v2 (iterZ zs (k + 1))) := by
            have h := HP.out
            rw [← HLl.out, partZ_end, HIT.out] at h
            exact OwnC.base h HB.out.size
          have HBE : Hid (Below w.heap.size w wr) := below_more HB.out HBW.out HB.out.size
          clear HP HBW HO
          go_wp2
          go_roundw
          case rel => exact ⟨k + 1, by omega, by go_num, HPE.out, HBE.out⟩
          case measure => simp [intOf]; omega
    · have hke : k = TN := by omega
      subst hke
      have hkI : ¬ (k : Int) < 3 + p % 4 := by rw [HTN.out]; omega
      have HALLS : Hid (∀ (t : Int), True) := fun _ => trivial
      obtain ⟨a5, c5, e5, hl5, hn5, hc5, -⟩ := OwnC.more HO.out
      rw [iterZ_len] at e5
      subst e5
      have HL5 : Hid (∀ X, Below wr.heap.size wr X → Lies X a5 (cellsOf candC (iterZ zs k))) := fun X hX => hl5.below hX
      have hn12 := HN.out
      generalize wr = w1 at *
      have CB := fun X (hX : Below w1.heap.size w1 X) (nt : Int) => lbest_any a5 zs.length c5 (iterZ zs k) nt X (iterZ_len zs k).symm (HL5.out X hX) (by rw [iterZ_len]; omega)
      clear hl5 hn5 hc5 HALLS HO
      go_wp2_with fail
      refine (CB w1 (Below.refl _ _) (-1)).mono ?_
      rintro e w2 ⟨ka, hka, rfl, hla, hb2⟩
      rw [iterZ_len] at hka hla
      have HLA : Hid (LastAt (iterZ zs k) (-1) zs.length ka) := hla
      have HB2 : Hid (Below w1.heap.size w1 w2) := hb2
      clear hla hb2
      by_cases hk0 : ka = 0
      · subst hk0
        have HALL : Hid (∀ i (hi : i < (iterZ zs k).length), (iterZ zs k)[i].dr = 0 ∧ (iterZ zs k)[i].bdr = 0) := last_none HLA.out
        have h01 : (((0 : Nat) : Int) - 1) = -1 := by omega
        rw [h01]
        clear h01
        have HLX : Hid (∀ X, Below w2.heap.size w2 X → Lies X a5 (cellsOf candC (iterZ zs k))) := fun X hX => HL5.out X (below_more HB2.out hX HB2.out.size)
        have HBX : Hid (Below w.heap.size w w2) := below_more HB.out HB2.out HB.out.size
        clear HLA CB HL5 HB2
        go_wp2_with fail
        go_loopw [15] (fun t wr => ∃ i : Nat, i ≤ zs.length ∧ t = .int .i64 i ∧ Hid (Below w2.heap.size w2 wr)) (fun t _ => zs.length - (intOf t).toNat)
        case atStart => exact ⟨0, by omega, rfl, Below.refl _ _⟩
        case round =>
          obtain ⟨i, hi, rfl, HK⟩ := hrel
          by_cases hlt : i < zs.length
          · have hki : (i : Int) < (zs.length : Int) := by omega
            have hil : i < (iterZ zs k).length := by rw [iterZ_len]; exact hlt
            obtain ⟨ax, offx, ex, -, -, -, e3, e4⟩ := Cands.cells (HLX.out _ HK.out) i hil
            cases ex
            rw [(HALL.out i hil).1] at e3
            rw [(HALL.out i hil).2] at e4
            go_wp2
            go_roundw
            case rel => exact ⟨i + 1, by omega, by go_num, HK.out⟩
            case measure => simp [intOf]; omega
          · have hke : i = zs.length := by omega
            subst hke
            have hnl3 : ¬ ((zs.length : Int) < (zs.length : Int)) := by omega
            have HBF : Hid (Below w.heap.size w wr) := below_more HBX.out HK.out HBX.out.size
            go_wp2_with fail
            refine (awake_good _).mono ?_
            rintro e w7 hg7
            have hg' := hg7.more HBF.out
            obtain ⟨rfl, -⟩ := hg7
            go_wp2
            go_ret
            exact hg'
      · have HIA : Hid (IsA zs zs.length (ka - 1)) := last_a HLA.out (by omega)
        obtain ⟨m, rfl⟩ : ∃ m, ka = m + 1 := ⟨ka - 1, by omega⟩
        have h01 : (((m + 1 : Nat) : Int) - 1) = (m : Int) := by omega
        rw [h01]
        clear h01
        simp only [Nat.add_sub_cancel] at HIA
        have hml : m < zs.length := HIA.out.1
        have hmI : (m : Int) < (zs.length : Int) := by omega
        have hmL : m < (iterZ zs k).length := by rw [iterZ_len]; exact hml
        obtain ⟨gx, ox, rfl, -, d1, -⟩ := Cands.cells (HL5.out w2 HB2.out) m hmL
        rw [iter_addr hml hmL] at d1
        go_wp2_with fail
        refine (CB w2 HB2.out (m : Int)).mono ?_
        rintro e w3 ⟨kb, hkb, rfl, hlb, hb3⟩
        rw [iterZ_len] at hkb hlb
        have HIB : Hid (IsBeta zs zs.length m (if kb = 0 then 0 else 11 + ((kb - 1 : Nat) : Int))) := last_b hlb
        have HB3 : Hid (Below w1.heap.size w1 w3) := below_more HB2.out hb3 HB2.out.size
        have HBX : Hid (Below w.heap.size w w3) := below_more HB.out HB3.out HB.out.size
        have HLX : Hid (∀ X, Below w3.heap.size w3 X → Lies X (some ⟨gx, ox, none⟩) (cellsOf candC (iterZ zs k))) := fun X hX => HL5.out X (below_more HB3.out hX HB3.out.size)
        clear hlb hb3 d1 CB HB2 HLA
        by_cases hk0 : kb = 0
        · subst hk0
          have HALL : Hid (∀ i (hi : i < (iterZ zs k).length), (iterZ zs k)[i].dr = 11 + (m : Int) ∧ (iterZ zs k)[i].bdr = 0) := last_some (by have := HT3.out; omega) HIA.out HIB.out
          have h01 : (((0 : Nat) : Int) - 1) = -1 := by omega
          rw [h01]
          clear h01 HIB HIA
          go_wp2_with fail
          go_loopw [15] (fun t wr => ∃ i : Nat, i ≤ zs.length ∧ t = .int .i64 i ∧ Hid (Below w3.heap.size w3 wr)) (fun t _ => zs.length - (intOf t).toNat)
          case atStart => exact ⟨0, by omega, rfl, Below.refl _ _⟩
          case round =>
            obtain ⟨i, hi, rfl, HK⟩ := hrel
            by_cases hlt : i < zs.length
            · have hki : (i : Int) < (zs.length : Int) := by omega
              have hil : i < (iterZ zs k).length := by rw [iterZ_len]; exact hlt
              obtain ⟨ax, offx, ex, -, -, -, e3, e4⟩ := Cands.cells (HLX.out _ HK.out) i hil
              cases ex
              rw [(HALL.out i hil).1] at e3
              rw [(HALL.out i hil).2] at e4
              go_wp2
              go_roundw
              case rel => exact ⟨i + 1, by omega, by go_num, HK.out⟩
              case measure => simp [intOf]; omega
            · have hke : i = zs.length := by omega
              subst hke
              have hnl3 : ¬ ((zs.length : Int) < (zs.length : Int)) := by omega
              have HBF : Hid (Below w.heap.size w wr) := below_more HBX.out HK.out HBX.out.size
              go_wp2_with fail
              refine (awake_good _).mono ?_
              rintro e w7 hg7
              have hg' := hg7.more HBF.out
              obtain ⟨rfl, -⟩ := hg7
              go_wp2
              go_ret
              exact hg'
        · obtain ⟨q, rfl⟩ : ∃ q, kb = q + 1 := ⟨kb - 1, by omega⟩
          have HALL : Hid (∀ i (hi : i < (iterZ zs k).length), (iterZ zs k)[i].dr = 11 + (m : Int) ∧ (iterZ zs k)[i].bdr = 11 + (q : Int)) := last_some (by have := HT3.out; omega) HIA.out HIB.out
          have h01 : (((q + 1 : Nat) : Int) - 1) = (q : Int) := by omega
          rw [h01]
          clear h01 HIB HIA
          have hql : q < zs.length := by omega
          have hqI : (q : Int) < (zs.length : Int) := by omega
          have hqL : q < (iterZ zs k).length := by rw [iterZ_len]; exact hql
          obtain ⟨gy, oy, ey, -, d1, -⟩ := Cands.cells (HLX.out w3 (Below.refl _ _)) q hqL
          cases ey
          rw [iter_addr hql hqL] at d1
          go_wp2_with fail
          go_loopw [15] (fun t wr => ∃ i : Nat, i ≤ zs.length ∧ t = .int .i64 i ∧ Hid (Below w3.heap.size w3 wr)) (fun t _ => zs.length - (intOf t).toNat)
          case atStart => exact ⟨0, by omega, rfl, Below.refl _ _⟩
          case round =>
            obtain ⟨i, hi, rfl, HK⟩ := hrel
            by_cases hlt : i < zs.length
            · have hki : (i : Int) < (zs.length : Int) := by omega
              have hil : i < (iterZ zs k).length := by rw [iterZ_len]; exact hlt
              obtain ⟨ax, offx, ex, -, -, -, e3, e4⟩ := Cands.cells (HLX.out _ HK.out) i hil
              cases ex
              rw [(HALL.out i hil).1] at e3
              rw [(HALL.out i hil).2] at e4
              go_wp2
              go_roundw
              case rel => exact ⟨i + 1, by omega, by go_num, HK.out⟩
              case measure => simp [intOf]; omega
            · have hke : i = zs.length := by omega
              subst hke
              have hnl3 : ¬ ((zs.length : Int) < (zs.length : Int)) := by omega
              have HBF : Hid (Below w.heap.size w wr) := below_more HBX.out HK.out HBX.out.size
              go_wp2_with fail
              refine (awake_good _).mono ?_
              rintro e w7 hg7
              have hg' := hg7.more HBF.out
              obtain ⟨rfl, -⟩ := hg7
              go_wp2
              go_ret
              exact hg'
end Go.Proofs.Ytioimebfenklkaa
