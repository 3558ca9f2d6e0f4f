/- Who is designated stays so. -/
import Derived.Test.YtioimebfenklkaaE10S
import Derived.Test.YtioimebfenklkaaOG
namespace Go.Proofs.Ytioimebfenklkaa
open Go.RowKit
set_option linter.unusedVariables false

theorem OwnC.base {w : World} {base base' : Nat} {v : Value} {L : List CandZ} (h : OwnC w base v L) (hb : base' ≤ base) : OwnC w base' v L := ownsRow_base h hb
theorem OwnC.block {w : World} {base : Nat} {v : Value} {L : List CandZ} (h : OwnC w base v L) (hL : 0 < L.length) : ∃ g c, v = .slice (some ⟨g, 0, none⟩) L.length c ∧ base ≤ g ∧ g < w.heap.size := by
  obtain ⟨a, c, e, hl, -, -, hg⟩ := OwnC.more h
  rcases hl with h | ⟨b, off, h, -⟩
  · have := cands_len L; rw [h] at this; simp at this; omega
  · obtain ⟨g, e', h1, h2⟩ := hg _ h
    exact ⟨g, c, by rw [e, h, e'], h1, h2⟩
theorem OwnC.belowN {w w' : World} {base g n c N : Nat} {L : List CandZ} (h : OwnC w base (.slice (some ⟨g, 0, none⟩) n c) L) (hb : Below N w w') (hg : g < N) : OwnC w' base (.slice (some ⟨g, 0, none⟩) n c) L := by
  rcases h.2 with ⟨e, _⟩ | ⟨g', cap', cur, e, hbg, hh, r⟩
  · cases e
  · have hgg : g' = g := by simp only [Value.slice.injEq, Option.some.injEq, Addr.mk.injEq] at e; omega
    subst hgg
    exact ⟨h.1, .inr ⟨g', cap', cur, e, hbg, by rw [hb.block _ hg]; exact hh, r⟩⟩
theorem Lies.tail {w : World} {g off : Nat} {A B : List Value} (h : Lies w (some ⟨g, off, none⟩) (A ++ B)) : Lies w (some ⟨g, off + A.length, none⟩) B := by
  rcases h with h | ⟨b, o, e, hc⟩
  · exact .inl (List.append_eq_nil_iff.1 h).2
  · cases e
    refine .inr ⟨g, off + A.length, rfl, fun i hi => ?_⟩
    rw [Nat.add_assoc, hc (A.length + i) (by rw [List.length_append]; omega), List.getElem?_append_right (by omega), Nat.add_sub_cancel_left]
theorem gone_lies {w : World} {g c : Nat} {base : Nat} {zs : List Int} (h : OwnC w base (.slice (some ⟨g, 0, none⟩) zs.length c) (stayZ zs zs.length)) (h2 : 2 ≤ zs.length) : Lies w (some ⟨g, 5, none⟩) (cellsOf candC (goneZ zs)) := by
  obtain ⟨-, hl, -⟩ := OwnC.lies h
  have e : stayZ zs zs.length = (stayZ zs zs.length)[0]'(by rw [stayZ_len]; omega) :: goneZ zs := by
    unfold goneZ
    rw [← List.drop_eq_getElem_cons (by rw [stayZ_len]; omega)]; rfl
  rw [e] at hl
  have := Lies.tail (A := candC ((stayZ zs zs.length)[0]'(by rw [stayZ_len]; omega))) (B := cellsOf candC (goneZ zs)) (by simpa [cellsOf] using hl)
  rw [candC_length, Nat.zero_add] at this
  exact this
/-- What Elect tells of one of a list among all others. -/
def PairEnd (w : World) (p : Int × Int) (e : Ending) (w' : World) : Prop := e = .returned (.tuple #[.int .i64 p.1, .int .i64 p.2]) ∧ Hid (Below w.heap.size w w')
theorem elect_oth {w0 w : World} {v : Value} {M : List CandZ} (s : CandZ) (h : OwnC w w0.heap.size v M) (hw : Below w0.heap.size w0 w) (hM : M.length ≤ 1000) : Calls Try.prog 10 #[.agg (candA s), v] w (PairEnd w0 (electZ s M)) := by
  obtain ⟨a, c, rfl, hl, -, -, -⟩ := OwnC.more h
  refine (elect_any s a M.length c M w rfl hl (by omega)).mono ?_
  rintro e w' ⟨h1, h2⟩
  exact ⟨h1, below_more hw h2 hw.size⟩
set_option maxHeartbeats 6400000 in
theorem electStays_walk (a : Option Addr) (cap : Nat) (zs : List Int) (p : Int) (hp : 0 ≤ p ∧ p ≤ 255) (w : World) (hB : Bts w a zs) (hz : AreBytes zs) (hm : zs.length ≤ maxLen) :
    Calls Try.prog 6 #[.slice a zs.length cap, .int .u8 p] w (Good w) := by
  by_cases h2 : zs.length < 2
  · have h2i : (zs.length : Int) < 2 := by omega
    clear hB
    go_enter Try.func6, Try.ntmps6
    go_wp2_with fail
    refine (awake_good _).mono ?_
    rintro e w1 hg
    have hg' := hg.more (Below.refl _ _)
    obtain ⟨rfl, -⟩ := hg
    go_wp2
    go_ret
    exact hg'
  have h2i : ¬ (zs.length : Int) < 2 := by omega
  by_cases h12 : 12 < zs.length
  · have h12i : (12 : Int) < (zs.length : Int) := by omega
    clear hB
    go_enter Try.func6, Try.ntmps6
    go_wp2_with fail
    refine (awake_good _).mono ?_
    rintro e w1 hg
    have hg' := hg.more (Below.refl _ _)
    obtain ⟨rfl, -⟩ := hg
    go_wp2
    go_ret
    exact hg'
  have h12i : ¬ (12 : Int) < (zs.length : Int) := by omega
  have HN : Hid (2 ≤ zs.length ∧ zs.length ≤ 12) := ⟨by omega, by omega⟩
  have CF := fresh_any a zs.length cap zs w rfl hB hz (by omega)
  clear hB
  go_enter Try.func6, Try.ntmps6
  go_wp2_with fail
  refine CF.mono ?_
  rintro e w1 ⟨v, rfl, ho, hb⟩
  obtain ⟨g, c, e, hgb, hgl⟩ := OwnC.block ho (by rw [freshZ_len]; have := HN.out; omega)
  subst e
  have HO1 : Hid (OwnC w1 w.heap.size (.slice (some ⟨g, 0, none⟩) zs.length c) (mixZ zs zs.length 0)) := by
    show OwnC _ _ _ _
    rw [mixZ_zero]
    have := ho
    rw [freshZ_len] at this
    exact this
  rw [freshZ_len]
  have HG : Hid (w.heap.size ≤ g) := hgb
  have HB1 : Hid (Below w.heap.size w w1) := hb
  clear ho hb CF hgb hgl
  go_wp2_with fail
  go_loopw [6] (fun t wr => ∃ i : Nat, i ≤ zs.length ∧ t = .int .i64 i ∧ Hid (OwnC wr w.heap.size (.slice (some ⟨g, 0, none⟩) zs.length c) (mixZ zs zs.length i)) ∧ Hid (Below w.heap.size w wr)) (fun t _ => zs.length - (intOf t).toNat)
  case atStart => exact ⟨0, by omega, rfl, HO1.out, HB1.out⟩
  case round =>
    clear HO1 HB1
    obtain ⟨i, hi, rfl, HO, HB⟩ := hrel
    have hln := HN.out
    by_cases hlt : i < zs.length
    · have hki : (i : Int) < (zs.length : Int) := by omega
      have hil : i < (mixZ zs zs.length i).length := by rw [mixZ_len]; exact hlt
      have k0 := OwnC.cells HO.out i hil
      rw [mixZ_at zs _ i hlt] at k0
      obtain ⟨-, -, k2, k3, k4⟩ := k0
      have hat := mixZ_at zs zs.length i hlt
      obtain ⟨hO3, f2, -⟩ := OwnC.put HO.out i 2 hil (by omega) ({ freshAt zs i with prio := 1 + zs.getD i 0 % 4 } : CandZ) (.int .i64 (1 + zs.getD i 0 % 4)) (by rw [hat]; rfl)
      obtain ⟨-, f3, -⟩ := OwnC.put HO.out i 3 hil (by omega) ({ freshAt zs i with dr := 0 } : CandZ) (.int .i64 0) (by rw [hat]; rfl)
      obtain ⟨-, f4, -⟩ := OwnC.put HO.out i 4 hil (by omega) ({ freshAt zs i with bdr := 0 } : CandZ) (.int .i64 0) (by rw [hat]; rfl)
      obtain ⟨hO4, -, -⟩ := OwnC.put hO3 i 3 (by simpa using hil) (by omega) ({ freshAt zs i with prio := 1 + zs.getD i 0 % 4, dr := 11 } : CandZ) (.int .i64 11) (by simp; rfl)
      obtain ⟨hO5, -, -⟩ := OwnC.put hO4 i 4 (by simpa using hil) (by omega) (stayAt zs i) (.int .i64 12) (by simp; rfl)
      simp only [List.set_set] at hO5
      rw [mixZ_more zs _ i hlt] at hO5
      have hzb := areBytes_getD hz i
      have hpr : (freshAt zs i).prio = zs.getD i 0 % 4 := rfl
      have hdr : (freshAt zs i).dr = 0 := rfl
      have hbr : (freshAt zs i).bdr = 0 := rfl
      rw [hpr] at k2
      rw [hdr] at k3
      rw [hbr] at k4
      have hz3 : 0 ≤ zs.getD i 0 % 4 ∧ zs.getD i 0 % 4 ≤ 3 := by omega
      clear hzb
      generalize zs.getD i 0 % 4 = z at *
      have HO5 : Hid (OwnC (((wr.setCell ⟨g, i * 5 + 2, none⟩ (.int .i64 (1 + z))).setCell ⟨g, i * 5 + 3, none⟩ (.int .i64 11)).setCell ⟨g, i * 5 + 4, none⟩ (.int .i64 12)) w.heap.size (.slice (some ⟨g, 0, none⟩) zs.length c) (mixZ zs zs.length (i + 1))) := hO5
      have HB5 : Hid (Below w.heap.size w (((wr.setCell ⟨g, i * 5 + 2, none⟩ (.int .i64 (1 + z))).setCell ⟨g, i * 5 + 3, none⟩ (.int .i64 11)).setCell ⟨g, i * 5 + 4, none⟩ (.int .i64 12))) := by
        have h2 : w.heap.size ≤ (⟨g, i * 5 + 2, none⟩ : Addr).block := HG.out
        have h3 : w.heap.size ≤ (⟨g, i * 5 + 3, none⟩ : Addr).block := HG.out
        have h4 : w.heap.size ≤ (⟨g, i * 5 + 4, none⟩ : Addr).block := HG.out
        exact ((HB.out.setCell h2 _).setCell h3 _).setCell h4 _
      clear hO3 hO4 hO5 HO HB hat hpr hdr hbr
      go_wp2
      go_roundw
      case rel => exact ⟨i + 1, by omega, by go_num, HO5.out, HB5.out⟩
      case measure => simp [intOf]; omega
    · have hke : i = zs.length := by omega
      subst hke
      have hnl : ¬ ((zs.length : Int) < (zs.length : Int)) := by omega
      have HO1 : Hid (OwnC wr w.heap.size (.slice (some ⟨g, 0, none⟩) zs.length c) (stayZ zs zs.length)) := by have := HO.out; rw [mixZ_end] at this; exact this
      obtain ⟨-, hl1, hn1⟩ := OwnC.lies HO1.out
      clear HO
      have h1000 : (stayZ zs zs.length).length ≤ 1000000 := by rw [stayZ_len]; omega
      go_wp2_with (at_builtin; go_must (refine wp_copy_cands wr _ rfl rfl _ _ rfl rfl (some ⟨g, 0, none⟩) _ _ (stayZ zs zs.length) rfl (stayZ_len zs _).symm hl1 hn1 h1000 ?_))
      intro v2 w2 ho2 hb2
      have HO2 : Hid (OwnC w2 w.heap.size v2 (stayZ zs zs.length)) := ho2.base HB.out.size
      have HB2 : Hid (Below w.heap.size w w2) := below_more HB.out hb2 HB.out.size
      have HG2 : Hid (OwnC w2 w.heap.size (.slice (some ⟨g, 0, none⟩) zs.length c) (stayZ zs zs.length)) := HO1.out.below hb2
      have HV : Hid (∀ k, v2.ownBlock = some k → wr.heap.size ≤ k) := fun k hk => (World.ownsRow.lt ho2 k hk).1
      have hgw : g < wr.heap.size := (World.ownsRow.lt HO1.out g rfl).2
      have HGW : Hid (g < wr.heap.size ∧ wr.heap.size ≤ w2.heap.size) := ⟨hgw, hb2.size⟩
      have HO2b : Hid (OwnC w2 wr.heap.size v2 (stayZ zs zs.length)) := ho2
      clear ho2 hb2 hl1 hn1 HB HO1 hgw HO2
      have hsz := HGW.out.2
      have h1001 : (stayZ zs zs.length).length + 1 ≤ 1000000 := by rw [stayZ_len]; omega
      have hp9 : 0 ≤ p ∧ p ≤ 255 := hp
      go_wp2_with (at_builtin; go_must (refine wp_append_cand w2 _ rfl rfl _ _ rfl wr.heap.size v2 _ rfl HO2b.out (newcomer p) rfl h1001 hsz ?_))
      intro v3 w3 ho3 hb3
      obtain ⟨gc, cc, e, hgc, hgcl⟩ := OwnC.block ho3 (by simp)
      subst e
      have hcl : (stayZ zs zs.length ++ [newcomer p]).length = zs.length + 1 := comeZ_len zs p
      rw [hcl]
      have HC3 : Hid (OwnC w3 w.heap.size (.slice (some ⟨gc, 0, none⟩) (zs.length + 1) cc) (comeZ zs p)) := by
        have := ho3
        rw [hcl] at this
        exact OwnC.base this (by have := HB2.out.size; have := HGW.out; have := World.ownsRow.lt HG2.out g rfl; omega)
      have HG3 : Hid (OwnC w3 w.heap.size (.slice (some ⟨g, 0, none⟩) zs.length c) (stayZ zs zs.length)) := HG2.out.belowN hb3 HGW.out.1
      have HB3 : Hid (Below w.heap.size w w3) := HB2.out.trans (hb3.mono (by have := HGW.out; have := World.ownsRow.lt HG2.out g rfl; omega))
      clear ho3 hb3 hgc hgcl hcl HO2b HG2 HB2 HV hsz h1000 h1001
      go_wp2_with fail
      go_loopw [8] (fun t wr => ∃ k : Nat, k ≤ zs.length + 1 ∧ t = .int .i64 k ∧ Hid (Below w3.heap.size w3 wr)) (fun t _ => zs.length + 1 - (intOf t).toNat)
      case atStart => exact ⟨0, by omega, rfl, Below.refl _ _⟩
      case round =>
        obtain ⟨k, hk, rfl, HK⟩ := hrel
        by_cases hlt : k < zs.length + 1
        · have hki : (k : Int) < (zs.length : Int) + 1 := by omega
          have hkl : k < (comeZ zs p).length := by rw [comeZ_len]; exact hlt
          have HTW : Hid (electZ (comeZ zs p)[k] (othZ (comeZ zs p) k (comeZ zs p).length) = (11, 12)) := come_two zs p HN.out.1 k hkl
          have hcell := fun X (hX : Below w3.heap.size w3 X) => OwnC.cells (HC3.out.below hX) k hkl
          have CO := fun X (hX : Below w3.heap.size w3 X) => others_any (some ⟨gc, 0, none⟩) (zs.length + 1) cc (comeZ zs p) k X (comeZ_len zs p).symm (OwnC.lies (HC3.out.below hX)).2.1 (by rw [comeZ_len]; omega)
          have CE := fun (w2 w4 : World) (v : Value) (h : OwnC w4 w2.heap.size v (othZ (comeZ zs p) k (comeZ zs p).length)) (hb : Below w2.heap.size w2 w4) => elect_oth (comeZ zs p)[k] h hb (by have := othZ_len (comeZ zs p) k (comeZ zs p).length; rw [comeZ_len] at this ⊢; omega)
          rw [HTW.out] at CE
          obtain ⟨x, hx⟩ : ∃ x, (comeZ zs p)[k] = x := ⟨_, rfl⟩
          rw [hx] at CE
          have hcell2 : Hid (∀ X, Below w3.heap.size w3 X → X.cell? ⟨gc, k * 5, none⟩ = some (.int .i64 x.id) ∧ X.cell? ⟨gc, k * 5 + 1, none⟩ = some (.int .i64 x.addr) ∧ X.cell? ⟨gc, k * 5 + 2, none⟩ = some (.int .i64 x.prio) ∧ X.cell? ⟨gc, k * 5 + 3, none⟩ = some (.int .i64 x.dr) ∧ X.cell? ⟨gc, k * 5 + 4, none⟩ = some (.int .i64 x.bdr) ∧ Hid (Below w3.heap.size w3 X)) := by
            intro X hX
            obtain ⟨e0, e1, e2, e3, e4⟩ := hcell X hX
            rw [hx] at e0 e1 e2 e3 e4
            exact ⟨e0, e1, e2, e3, e4, hX⟩
          have hVd : Hid (Below w3.heap.size w3 wr.drew) := HK.out.drew
          clear hcell hx HTW
          go_upto_region 15 with fail
          go_region_held3 (fun X => X.cell? ⟨gc, k * 5, none⟩ = some (.int .i64 x.id) ∧ X.cell? ⟨gc, k * 5 + 1, none⟩ = some (.int .i64 x.addr) ∧ X.cell? ⟨gc, k * 5 + 2, none⟩ = some (.int .i64 x.prio) ∧ X.cell? ⟨gc, k * 5 + 3, none⟩ = some (.int .i64 x.dr) ∧ X.cell? ⟨gc, k * 5 + 4, none⟩ = some (.int .i64 x.bdr) ∧ Hid (Below w3.heap.size w3 X)) (with_reducible first | exact hcell2.out _ hVd.out | exact hcell2.out _ hb4.out | exact hcell2.out _ hb5.out | assumption) (first
            | (go_at_call 13; refine (CO _ hVd.out).mono ?_; rintro e w4 ⟨v4, rfl, ho4, hbb4⟩; have hb4 : Hid (Below w3.heap.size w3 w4) := below_more hVd.out hbb4 hVd.out.size)
            | (go_at_call 10; refine (CE _ _ _ ho4 hbb4).mono ?_; rintro e w5 ⟨rfl, hbb5⟩; have hb5 : Hid (Below w3.heap.size w3 w5) := below_more hVd.out hbb5.out hVd.out.size))
          have HK5 : Hid (Below w3.heap.size w3 w5) := hb5
          clear hb4 hb5 ho4 hbb4 hbb5 CO CE hcell2 hVd HK
          go_wp2
          go_roundw
          case rel => exact ⟨k + 1, by omega, by go_num, HK5.out⟩
          case measure => simp [intOf]; omega
        · have hke : k = zs.length + 1 := by omega
          subst hke
          have HBL : Hid (Below w.heap.size w wr) := below_more HB3.out HK.out HB3.out.size
          have HGL : Hid (OwnC wr w.heap.size (.slice (some ⟨g, 0, none⟩) zs.length c) (stayZ zs zs.length)) := HG3.out.below HK.out
          have hnk : ¬ ((zs.length : Int) + 1 < (zs.length : Int) + 1) := by omega
          have hn2 := HN.out
          have hnc : zs.length ≤ c := by
            obtain ⟨a', c', e, -, -, h, -⟩ := OwnC.more HGL.out
            rw [stayZ_len] at h e
            cases e
            exact h
          have hi1 : (1 : Int) ≤ (zs.length : Int) := by omega
          have hi2 : (zs.length : Int) ≤ (c : Int) := by omega
          clear HK HB3 HG3 HC3
          go_upto_region 19 with fail
          have hgL := goneZ_len zs
          have hlies := gone_lies HGL.out hn2.1
          have h0l : 0 < (goneZ zs).length := by omega
          have hfst := gone_first zs hn2.1
          have h1i : (0 : Int) < ((zs.length - 1 : Nat) : Int) := by omega
          have CO := fun X (hX : Below wr.heap.size wr X) => others_any (some ⟨g, 5, none⟩) (zs.length - 1) (c - 1) (goneZ zs) 0 X hgL.symm (hlies.below hX) (by omega)
          have CE := fun (w2 w4 : World) (v : Value) (h : OwnC w4 w2.heap.size v (othZ (goneZ zs) 0 (goneZ zs).length)) (hb : Below w2.heap.size w2 w4) => elect_oth (stayAt zs 1) h hb (by have := othZ_len (goneZ zs) 0 (goneZ zs).length; omega)
          have HT := gone_two zs hn2.1
          generalize electZ (stayAt zs 1) (othZ (goneZ zs) 0 (goneZ zs).length) = E at CE HT
          obtain ⟨q1, q2⟩ := E
          change q1 = 12 at HT
          subst HT
          have hcell2 : Hid (∀ X, Below wr.heap.size wr X → X.cell? ⟨g, 5, none⟩ = some (.int .i64 (stayAt zs 1).id) ∧ X.cell? ⟨g, 6, none⟩ = some (.int .i64 (stayAt zs 1).addr) ∧ X.cell? ⟨g, 7, none⟩ = some (.int .i64 (stayAt zs 1).prio) ∧ X.cell? ⟨g, 8, none⟩ = some (.int .i64 (stayAt zs 1).dr) ∧ X.cell? ⟨g, 9, none⟩ = some (.int .i64 (stayAt zs 1).bdr) ∧ Hid (Below wr.heap.size wr X)) := by
            intro X hX
            obtain ⟨b, off, e, e0, e1, e2, e3, e4⟩ := Cands.cells (hlies.below hX) 0 h0l
            cases e
            rw [hfst] at e0 e1 e2 e3 e4
            exact ⟨e0, e1, e2, e3, e4, hX⟩
          have hVd : Hid (Below wr.heap.size wr wr.drew) := (Below.refl _ _).drew
          obtain ⟨x, hx⟩ : ∃ x, stayAt zs 1 = x := ⟨_, rfl⟩
          rw [hx] at CE hcell2
          clear hfst hx hlies hgL HGL h0l
          generalize zs.length - 1 = m at *
          have hmp : 0 < m := by omega
          have hm0 : ¬ m = 0 := by omega
          go_region_held3 (fun X => X.cell? ⟨g, 5, none⟩ = some (.int .i64 x.id) ∧ X.cell? ⟨g, 6, none⟩ = some (.int .i64 x.addr) ∧ X.cell? ⟨g, 7, none⟩ = some (.int .i64 x.prio) ∧ X.cell? ⟨g, 8, none⟩ = some (.int .i64 x.dr) ∧ X.cell? ⟨g, 9, none⟩ = some (.int .i64 x.bdr) ∧ Hid (Below wr.heap.size wr X)) (with_reducible first | exact hcell2.out _ hVd.out | exact hcell2.out _ hb4.out | exact hcell2.out _ hb5.out | assumption) (first
            | (go_at_call 13; refine (CO _ hVd.out).mono ?_; rintro e w4 ⟨v4, rfl, ho4, hbb4⟩; have hb4 : Hid (Below wr.heap.size wr w4) := below_more hVd.out hbb4 hVd.out.size)
            | (go_at_call 10; refine (CE _ _ _ ho4 hbb4).mono ?_; rintro e w5 ⟨rfl, hbb5⟩; have hb5 : Hid (Below wr.heap.size wr w5) := below_more hVd.out hbb5.out hVd.out.size))
          have HB5 : Hid (Below w.heap.size w w5) := below_more HBL.out hb5.out HBL.out.size
          clear hb4 hb5 ho4 hbb4 hbb5 CO CE hcell2 hVd HBL
          go_wp2_with fail
          refine (awake_good _).mono ?_
          rintro e w7 hg7
          have hg' := hg7.more HB5.out
          obtain ⟨rfl, -⟩ := hg7
          go_wp2
          go_ret
          exact hg'
end Go.Proofs.Ytioimebfenklkaa
