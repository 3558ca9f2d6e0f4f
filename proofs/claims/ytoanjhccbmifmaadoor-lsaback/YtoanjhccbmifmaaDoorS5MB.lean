/- Lists of advertisements, put one behind the other, in plain data and in memory. -/
import Derived.Test.YtoanjhccbmifmaaDoorS5L3
namespace Go.Proofs.YtoanjhccbmifmaaDoor
open Go.RowKit
set_option linter.unusedVariables false

abbrev SL := Seats × LsaZ
def slC (z : SL) : List Value := lsaL z.1 z.2
def layS (z : SL) : List Int := layZ (withHead z.2 (sealH z.2))
def packZ (L : List SL) : List Int := L.flatMap layS
theorem pack_take (L : List SL) (k : Nat) (h : k < L.length) : packZ (L.take (k + 1)) = packZ (L.take k) ++ layS L[k] := by
  unfold packZ; rw [← List.take_append_getElem h, List.flatMap_append]; simp
theorem pack_split (L : List SL) (k : Nat) (h : k < L.length) : packZ L = packZ (L.take k) ++ (layS L[k] ++ packZ (L.drop (k + 1))) := by
  unfold packZ
  conv => lhs; rw [← List.take_append_drop k L, List.flatMap_append, List.drop_eq_getElem_cons h, List.flatMap_cons]
theorem from_back (a h : List Int) : fromZ (a ++ h) (a.length : Int) = h := by
  unfold fromZ
  rw [if_neg (by simp; omega)]
  simp
theorem pack_from (L : List SL) (k : Nat) (h : k < L.length) : fromZ (packZ L) ((packZ (L.take k)).length : Int) = layS L[k] ++ packZ (L.drop (k + 1)) := by
  rw [pack_split L k h]; exact from_back _ _
theorem pack_bd (L : List SL) : AreBytes (packZ L) := flat_bd layS (fun z => layZ_bd _) L
theorem lay_le (z : SL) (h : rightLsaB z.2 = true) : (layS z).length ≤ 1000 := by
  have h1 := seal_lay_len z.2
  have h2 := right_len (rc_of h)
  rw [seal_len] at h1
  unfold layS; omega
theorem pack_le (L : List SL) (h : ∀ z ∈ L, rightLsaB z.2 = true) : (packZ L).length ≤ L.length * 1000 := by
  induction L with
  | nil => simp [packZ]
  | cons z L ih =>
    have h1 := ih (fun y hy => h y (List.mem_cons_of_mem _ hy))
    have h2 := lay_le z (h z (by simp))
    have e : packZ (z :: L) = layS z ++ packZ L := by unfold packZ; rw [List.flatMap_cons]
    rw [e, List.length_append, List.length_cons, Nat.add_mul]; omega
theorem Lsas.cells {w : World} {a : Option Addr} {L : List SL} (h : Lies w a (cellsOf slC L)) (i : Nat) (hi : i < L.length) :
    ∃ b off, a = some ⟨b, off, none⟩ ∧ w.cell? ⟨b, off + i * 12, none⟩ = some (.int .i64 L[i].2.head.age) ∧ w.cell? ⟨b, off + i * 12 + 1, none⟩ = some (.int .i64 L[i].2.head.kind) ∧ w.cell? ⟨b, off + i * 12 + 2, none⟩ = some (.int .i64 L[i].2.head.id) ∧ w.cell? ⟨b, off + i * 12 + 3, none⟩ = some (.int .i64 L[i].2.head.adv) ∧ w.cell? ⟨b, off + i * 12 + 4, none⟩ = some (.int .i64 L[i].2.head.seq) ∧ w.cell? ⟨b, off + i * 12 + 5, none⟩ = some (.int .i64 L[i].2.head.sum) ∧ w.cell? ⟨b, off + i * 12 + 6, none⟩ = some (.int .i64 L[i].2.head.len) ∧ w.cell? ⟨b, off + i * 12 + 7, none⟩ = some (.int .i64 L[i].2.flags) ∧ w.cell? ⟨b, off + i * 12 + 8, none⟩ = some (.slice L[i].1.la L[i].2.links.length L[i].1.lc) ∧ w.cell? ⟨b, off + i * 12 + 9, none⟩ = some (.int .i64 L[i].2.bits) ∧ w.cell? ⟨b, off + i * 12 + 10, none⟩ = some (.slice L[i].1.ra L[i].2.routers.length L[i].1.rc) ∧ w.cell? ⟨b, off + i * 12 + 11, none⟩ = some (.slice L[i].1.va L[i].2.verts.length L[i].1.vc) := by
  obtain ⟨b, off, rfl, hc⟩ := h.cell slC 12 (fun _ => rfl) (by rintro rfl; simp at hi) (by omega)
  exact ⟨b, off, rfl, hc i 0 hi (by omega), hc i 1 hi (by omega), hc i 2 hi (by omega), hc i 3 hi (by omega), hc i 4 hi (by omega), hc i 5 hi (by omega), hc i 6 hi (by omega), hc i 7 hi (by omega), hc i 8 hi (by omega), hc i 9 hi (by omega), hc i 10 hi (by omega), hc i 11 hi (by omega)⟩
theorem wp_append_row {ops : Array Oper} {rest : List Oper} {o : Oper} {a : Act} {Q : Exit → Act → World → Prop} (w : World) (hgd : o.guard = none) (s x : Operand)
    (ho : o.op = .call { callee := .builtin .append, args := #[s, x], argTypes := #[31, 31] }) (base : Nat) (hbase : base ≤ w.heap.size) (v : Value) (ys : List Int) (hs : a.eval s = v) (hown : w.ownsRow base 5 1 v ys.length (ys.map (Value.int .u8)))
    (ad : Addr) (m c : Nat) (hx : a.eval x = .slice (some ad) m c) (zs : List Int) (hm : m = zs.length) (hB : Bts w (some ad) zs) (hl : ys.length + zs.length ≤ 1000000)
    (h : ∀ v' w', w'.ownsRow base 5 1 v' (ys ++ zs).length ((ys ++ zs).map (Value.int .u8)) → Below base w w' → wpList Tryd.prog ops Q rest (a.put o.dst v') w') : wpList Tryd.prog ops Q (o :: rest) a w := by
  subst hm
  obtain ⟨i, hi, hz0, hz1, hz2⟩ := info_parts info_u8
  refine wpList_append_own w hgd s x 31 ho base 5 i (.int .u8 0) 1 1 Tryd.underlying31 hi hz0 hz1 hz2 rfl (by decide) v ys.length (ys.map (Value.int .u8)) hs hown ad zs.length c (zs.map (Value.int .u8)) hx (by simp) ?_ ?_ (by unfold maxLen; omega) (by omega) hbase ?_
  · intro j u hj
    have hjl : j < zs.length := by
      have := (List.getElem?_eq_some_iff.1 hj).1; simpa using this
    rcases hB with e | ⟨b, off, e, hc⟩
    · subst e; simp at hjl
    · cases e
      have hu : u = .int .u8 (zs.getD j 0) := by
        simp [hjl] at hj
        simp [hjl, hj]
      rw [hu, ← hc j hjl, addr_add]
  · intro u hu
    simp at hu
    obtain ⟨z, _, rfl⟩ := hu
    rfl
  · intro v' w' hown' hgrow _
    exact h v' w' (by rw [List.length_append, List.map_append]; exact hown') ((Below.refl _ _).grown hgrow hbase (fun k hk => (World.ownsRow.lt hown k hk).1))
theorem row_slice {w : World} {base : Nat} {v : Value} {zs : List Int} (h : w.ownsRow base 5 1 v zs.length (zs.map (Value.int .u8))) (hz : AreBytes zs) (hl : zs.length ≤ 1000000) : ∃ a cap, v = .slice a zs.length cap ∧ Slice w a cap zs := by
  rcases h.2 with ⟨h', h0⟩ | ⟨g', cap', cur, h', hbg, hg, r⟩
  · have : zs = [] := List.eq_nil_of_length_eq_zero h0
    subst this
    exact ⟨none, 0, by rw [h']; rfl, slice_nil w⟩
  · subst h'
    have ho : Owns w base g' cap' zs := h
    exact ⟨_, cap', rfl, ho.bts, hz, ho.cap, (fun h => by cases h), by omega⟩
/-- Get of one that stands at a place. -/
theorem get_back (a : Option Addr) (n cap : Nat) (ps : List Int) (q : Int) (l : LsaZ) (t : List Int) (S N : Int) (w : World) (hn : n = ps.length) (hE : Env w) (hS : Slice w a cap ps) (hr : rightLsaB l = true) (hf : fromZ ps q = layZ (withHead l (sealH l)) ++ t) (hs : (sealH l).sum = S) (hL : (sealH l).len = N) :
    Calls Tryd.prog 23 #[.slice a n cap, .int .i64 q] w fun e w' => ∃ s', e = .returned (.tuple #[.agg #[.int .i64 l.head.age, .int .i64 l.head.kind, .int .i64 l.head.id, .int .i64 l.head.adv, .int .i64 l.head.seq, .int .i64 S, .int .i64 N, .int .i64 l.flags, .slice s'.la l.links.length s'.lc, .int .i64 l.bits, .slice s'.ra l.routers.length s'.rc, .slice s'.va l.verts.length s'.vc], .int .i64 (q + N), .int .i64 0]) ∧ Held w' s' l ∧ Below w.heap.size w w' := by
  refine (get_any a n cap ps q w hn hE hS).mono ?_
  obtain ⟨g1, g2⟩ := got_back l hr t
  rintro e w' ⟨hb, h | h⟩
  · rw [hf, g2] at h
    obtain ⟨_, s', he, hh, hnl⟩ := h
    refine ⟨s', ?_, ⟨hh.hl, hh.hr, hh.hv⟩, hb⟩
    rw [he, ← hs, ← hL]
    have e1 := sealH_age l
    have e2 := sealH_kind l
    have e3 := sealH_id l
    have e4 := sealH_adv l
    have e5 := sealH_seq l
    rw [← e1, ← e2, ← e3, ← e4, ← e5]
    rfl
  · rw [hf] at h; exact absurd g1 h.1
theorem get_end (a : Option Addr) (n cap : Nat) (ps : List Int) (w : World) (hn : n = ps.length) (hE : Env w) (hS : Slice w a cap ps) :
    Calls Tryd.prog 23 #[.slice a n cap, .int .i64 n] w fun e w' => e = .returned (.tuple #[.agg #[.int .i64 0, .int .i64 0, .int .i64 0, .int .i64 0, .int .i64 0, .int .i64 0, .int .i64 0, .int .i64 0, .slice none 0 0, .int .i64 0, .slice none 0 0, .slice none 0 0], .int .i64 0, .int .i64 2]) ∧ Below w.heap.size w w' := by
  have hf : fromZ ps (n : Int) = [] := by
    subst hn; unfold fromZ; rw [if_neg (by omega)]; simp
  have hE2 : getE [] = 2 := rfl
  refine (get_any a n cap ps n w hn hE hS).mono ?_
  rw [hf]
  rintro e w' ⟨hb, h | h⟩
  · rw [hE2] at h; exact absurd h.1 (by decide)
  · rw [hE2] at h; exact ⟨h.2, hb⟩
end Go.Proofs.YtoanjhccbmifmaaDoor
/- Sealed ones, one behind the other, are read back: the first loop. -/
namespace Go.Proofs.YtoanjhccbmifmaaDoor
open Go.RowKit
set_option linter.unusedVariables false

set_option maxHeartbeats 6400000 in
set_option maxRecDepth 40000 in
theorem lsaBack_walk (a : Option Addr) (cap : Nat) (L : List SL) (w : World) (hL : Lies w a (cellsOf slC L)) (hC : ∀ z ∈ L, Held w z.1 z.2 ∧ Nils z.1) (hE : Env w) :
    Calls Tryd.prog 5 #[.slice a L.length cap] w fun e w' => e = .returned (.bool true) ∧ Below w.heap.size w w' := by
  have HB : Hid (Below w.heap.size w w) := Below.refl _ _
  have HE : Hid (Env w) := hE
  have HC : Hid (∀ z ∈ L, Held w z.1 z.2 ∧ Nils z.1) := hC
  have HL : Hid (Lies w a (cellsOf slC L)) := hL
  clear hE hC hL
  by_cases h8 : 8 < L.length
  · go_enter Tryd.func5, Tryd.ntmps5
    go_wp2_with fail
    refine (awake_any _ (HE.out.below HB.out (Nat.le_refl _))).mono ?_
    rintro e wz ⟨rfl, hb⟩
    replace HB : Hid (Below w.heap.size w wz) := below_more HB.out hb HB.out.size
    clear hb
    go_wp2
    go_ret
    exact ⟨rfl, HB.out⟩
  go_enter Tryd.func5, Tryd.ntmps5
  go_upto_region 4 with fail
  go_wp2_with fail
  go_loopw [3, 4, 5, 6] (fun v3 v4 _ _ wr => ∃ k : Nat, v4 = .int .i64 k ∧ k ≤ L.length ∧ Hid (wr.ownsRow w.heap.size 5 1 v3 (packZ (L.take k)).length ((packZ (L.take k)).map (Value.int .u8))) ∧ Hid (∀ z ∈ L.take k, rightLsaB z.2 = true) ∧ Hid (Below w.heap.size w wr)) (fun _ v4 _ _ _ => L.length - (intOf v4).toNat)
  case atStart => exact ⟨0, rfl, by omega, by show World.ownsRow _ _ _ _ _ _ _; simp only [List.take_zero, packZ, List.flatMap_nil, List.map_nil, List.length_nil]; exact ⟨by simp, .inl ⟨rfl, rfl⟩⟩, (fun z hz => by simp at hz), Below.refl _ _⟩
  case round =>
    obtain ⟨k, rfl, hk, HO, HA, HB⟩ := hrel
    by_cases hlt : k < L.length
    · obtain ⟨b, off, rfl, _⟩ := Lsas.cells HL.out k hlt
      have HCL : Hid (∀ w', Below w.heap.size w w' → w'.cell? ⟨b, off + k * 12, none⟩ = some (.int .i64 L[k].2.head.age) ∧ w'.cell? ⟨b, off + k * 12 + 1, none⟩ = some (.int .i64 L[k].2.head.kind) ∧ w'.cell? ⟨b, off + k * 12 + 2, none⟩ = some (.int .i64 L[k].2.head.id) ∧ w'.cell? ⟨b, off + k * 12 + 3, none⟩ = some (.int .i64 L[k].2.head.adv) ∧ w'.cell? ⟨b, off + k * 12 + 4, none⟩ = some (.int .i64 L[k].2.head.seq) ∧ w'.cell? ⟨b, off + k * 12 + 5, none⟩ = some (.int .i64 L[k].2.head.sum) ∧ w'.cell? ⟨b, off + k * 12 + 6, none⟩ = some (.int .i64 L[k].2.head.len) ∧ w'.cell? ⟨b, off + k * 12 + 7, none⟩ = some (.int .i64 L[k].2.flags) ∧ w'.cell? ⟨b, off + k * 12 + 8, none⟩ = some (.slice L[k].1.la L[k].2.links.length L[k].1.lc) ∧ w'.cell? ⟨b, off + k * 12 + 9, none⟩ = some (.int .i64 L[k].2.bits) ∧ w'.cell? ⟨b, off + k * 12 + 10, none⟩ = some (.slice L[k].1.ra L[k].2.routers.length L[k].1.rc) ∧ w'.cell? ⟨b, off + k * 12 + 11, none⟩ = some (.slice L[k].1.va L[k].2.verts.length L[k].1.vc)) := fun w' hX => by
        obtain ⟨b', off', e, h⟩ := Lsas.cells (HL.out.below hX) k hlt
        cases e; exact h
      have HCz : Hid (Held w L[k].1 L[k].2 ∧ Nils L[k].1) := HC.out _ (List.getElem_mem hlt)
      have HTK : Hid (packZ (L.take (k + 1)) = packZ (L.take k) ++ layS L[k]) := pack_take L k hlt
      have HPL : Hid ((packZ (L.take k)).length ≤ 8000) := by
        have h1 := pack_le (L.take k) HA.out
        rw [List.length_take] at h1
        show _ ≤ _; omega
      have HAK : Hid (rightLsaB L[k].2 = true → ∀ z ∈ L.take (k + 1), rightLsaB z.2 = true) := fun hr z hz => by
        rw [← List.take_append_getElem hlt] at hz
        rcases List.mem_append.1 hz with h | h
        · exact HA.out z h
        · simp at h; rw [h]; exact hr
      have HLS : Hid (layS L[k] = layZ (withHead L[k].2 (sealH L[k].2))) := rfl
      have HLE : Hid (rightLsaB L[k].2 = true → (layS L[k]).length ≤ 1000) := lay_le _
      obtain ⟨P1, hP1e⟩ : ∃ P1, packZ (L.take (k + 1)) = P1 := ⟨_, rfl⟩
      have HP1E : Hid (packZ (L.take (k + 1)) = P1) := hP1e
      rw [hP1e] at HTK
      clear hP1e
      generalize packZ (L.take k) = P0 at *
      generalize layS L[k] = lk at *
      obtain ⟨s, hs⟩ : ∃ s, L[k].1 = s := ⟨_, rfl⟩
      obtain ⟨l, hl⟩ : ∃ l, L[k].2 = l := ⟨_, rfl⟩
      rw [hs, hl] at HCz
      rw [hl] at HAK HLS HLE
      rw [hs, hl] at HCL
      clear hs hl HA
      obtain ⟨c0, c1, c2, c3, c4, c5, c6, c7, c8, c9, c10, c11⟩ := HCL.out _ HB.out
      go_wp2_with fail
      refine (great_any s l _).mono ?_
      rintro e w1 ⟨rfl, hb⟩
      have HW : Hid (Below wr.heap.size wr w1) := hb
      replace HB : Hid (Below w.heap.size w w1) := below_more HB.out hb HB.out.size
      clear hb c0 c1 c2 c3 c4 c5 c6 c7 c8 c9 c10 c11
      cases hg : greatB l with
      | true =>
        go_wp2_with fail
        refine (awake_any _ (HE.out.below HB.out (Nat.le_refl _))).mono ?_
        rintro e wz ⟨rfl, hb⟩
        replace HB : Hid (Below w.heap.size w wz) := below_more HB.out hb HB.out.size
        clear hb
        go_wp2
        go_ret
        exact ⟨rfl, HB.out⟩
      | false =>
        have HM : Hid (Mid l) := great_mid hg
        obtain ⟨c0, c1, c2, c3, c4, c5, c6, c7, c8, c9, c10, c11⟩ := HCL.out _ HB.out
        go_wp2_with fail
        refine (rrightLsa_any s l _ (HCz.out.1.below HB.out) HM.out.fits).mono ?_
        rintro e w2 ⟨rfl, hb⟩
        replace HW : Hid (Below wr.heap.size wr w2) := below_more HW.out hb HW.out.size
        replace HB : Hid (Below w.heap.size w w2) := below_more HB.out hb HB.out.size
        clear hb hg c0 c1 c2 c3 c4 c5 c6 c7 c8 c9 c10 c11
        cases hr : rightLsaB l with
        | false =>
          go_wp2_with fail
          refine (awake_any _ (HE.out.below HB.out (Nat.le_refl _))).mono ?_
          rintro e wz ⟨rfl, hb⟩
          replace HB : Hid (Below w.heap.size w wz) := below_more HB.out hb HB.out.size
          clear hb
          go_wp2
          go_ret
          exact ⟨rfl, HB.out⟩
        | true =>
          have hseal := fun W h => seal_yes s l W h HM.out HCz.out.2 hr
          have HSE : Hid (sealedB (withHead l (sealH l)) = true) := sealed_sealed hr
          have HMM : Hid (Mid (withHead l (sealH l))) := mid_head HM.out _
          have HAK' : Hid (∀ z ∈ L.take (k + 1), rightLsaB z.2 = true) := HAK.out hr
          have hlk : lk.length ≤ 1000 := HLE.out hr
          have hP0 : P0.length ≤ 8000 := HPL.out
          generalize withHead l (sealH l) = M at *
          clear hr HAK HLE HPL
          obtain ⟨c0, c1, c2, c3, c4, c5, c6, c7, c8, c9, c10, c11⟩ := HCL.out _ HB.out
          go_wp2_with fail
          refine (hseal _ (HCz.out.1.below HB.out)).mono ?_
          rintro e w3 ⟨s1, rfl, hh, hn, hb⟩
          replace HW : Hid (Below wr.heap.size wr w3) := below_more HW.out hb HW.out.size
          replace HB : Hid (Below w.heap.size w w3) := below_more HB.out hb HB.out.size
          have HH1 : Hid (Held w3 s1 M) := hh
          clear hb hh hn hseal c0 c1 c2 c3 c4 c5 c6 c7 c8 c9 c10 c11
          have hp := put_sealed s1 M w3 (HE.out.below HB.out (Nat.le_refl _)) HH1.out HMM.out HSE.out
          rw [← HLS.out] at hp
          go_wp2_with fail
          refine hp.mono ?_
          rintro e w5 ⟨g, cp, rfl, ho, hb⟩
          replace HW : Hid (Below wr.heap.size wr w5) := below_more HW.out hb HW.out.size
          replace HB : Hid (Below w.heap.size w w5) := below_more HB.out hb HB.out.size
          have HBT : Hid (Bts w5 (some ⟨g, 0, none⟩) lk) := ho.bts
          replace HO : Hid (w5.ownsRow w.heap.size 5 1 u3 P0.length (P0.map (Value.int .u8))) := row_below HO.out HW.out
          clear hb ho hp
          go_wp2_with fail
          refine (num_any _ _).mono ?_
          rintro e w6 ⟨rfl, hw6⟩
          subst w6
          go_wp2_with (at_builtin; go_must (refine wp_append_row w5 rfl _ _ rfl w.heap.size HB.out.size u3 P0 rfl HO.out _ _ _ rfl lk rfl HBT.out (by omega) ?_))
          intro v' w7 ho hb
          have HO7 : Hid (w7.ownsRow w.heap.size 5 1 v' P1.length (P1.map (Value.int .u8))) := by rw [HTK.out, List.length_append, List.map_append]; exact ho
          replace HB : Hid (Below w.heap.size w w7) := HB.out.trans hb
          clear ho hb HO HW HBT
          have HP1 : Hid (packZ (L.take (k + 1)) = P1) := HP1E.out
          go_wp2
          go_roundw
          case rel => exact ⟨k + 1, by go_num, by omega, by rw [HP1.out]; exact HO7.out, HAK'.out, HB.out⟩
          case measure => simp [intOf]; omega
    · have hkL : k = L.length := by omega
      have HAL : Hid (∀ z ∈ L, rightLsaB z.2 = true) := by have h := HA.out; rw [hkL, List.take_length] at h; exact h
      have HPL : Hid ((packZ L).length ≤ 8000) := by have h := pack_le L HAL.out; show _ ≤ _; omega
      have HOL : Hid (wr.ownsRow w.heap.size 5 1 u3 (packZ L).length ((packZ L).map (Value.int .u8))) := by have h := HO.out; rw [hkL, List.take_length] at h; exact h
      obtain ⟨ra, rc, hu3, hsl⟩ := row_slice HOL.out (pack_bd L) (by have := HPL.out; omega)
      have HSL : Hid (Slice wr ra rc (packZ L)) := hsl
      subst hu3
      clear hsl HOL HO HA hkL
      obtain ⟨n, hn⟩ : ∃ n, (packZ L).length = n := ⟨_, rfl⟩
      have HN : Hid ((packZ L).length = n) := hn
      have hn8 : n ≤ 8000 := by rw [← hn]; exact HPL.out
      rw [hn]
      clear hn
      have HWW : Hid (Below wr.heap.size wr wr) := Below.refl _ _
      generalize wr = W0 at *
      go_upto_region 14 with fail
      go_wp2_with fail
      go_loopw [7, 8, 9, 10, 11] (fun v7 v8 _ _ _ wx => ∃ (k q : Nat), v7 = .int .i64 q ∧ v8 = .int .i64 k ∧ k ≤ L.length ∧ Hid ((packZ (L.take k)).length = q) ∧ Hid (Below W0.heap.size W0 wx) ∧ Hid (Below w.heap.size w wx)) (fun _ v8 _ _ _ _ => L.length - (intOf v8).toNat)
      case atStart => exact ⟨0, 0, rfl, rfl, by omega, by show _ = _; simp [packZ], HWW.out, HB.out⟩
      case round =>
        clear HB HWW
        obtain ⟨k, q, rfl, rfl, hk, HQ, HWX, HB⟩ := hrel
        have hq8 : q ≤ 8000 := by
          have h1 := pack_le (L.take k) (fun z hz => HAL.out z (List.mem_of_mem_take hz))
          rw [HQ.out, List.length_take] at h1; omega
        by_cases hlt : k < L.length
        · obtain ⟨b, off, rfl, _⟩ := Lsas.cells HL.out k hlt
          have HCL : Hid (∀ w', Below w.heap.size w w' → w'.cell? ⟨b, off + k * 12, none⟩ = some (.int .i64 L[k].2.head.age) ∧ w'.cell? ⟨b, off + k * 12 + 1, none⟩ = some (.int .i64 L[k].2.head.kind) ∧ w'.cell? ⟨b, off + k * 12 + 2, none⟩ = some (.int .i64 L[k].2.head.id) ∧ w'.cell? ⟨b, off + k * 12 + 3, none⟩ = some (.int .i64 L[k].2.head.adv) ∧ w'.cell? ⟨b, off + k * 12 + 4, none⟩ = some (.int .i64 L[k].2.head.seq) ∧ w'.cell? ⟨b, off + k * 12 + 5, none⟩ = some (.int .i64 L[k].2.head.sum) ∧ w'.cell? ⟨b, off + k * 12 + 6, none⟩ = some (.int .i64 L[k].2.head.len) ∧ w'.cell? ⟨b, off + k * 12 + 7, none⟩ = some (.int .i64 L[k].2.flags) ∧ w'.cell? ⟨b, off + k * 12 + 8, none⟩ = some (.slice L[k].1.la L[k].2.links.length L[k].1.lc) ∧ w'.cell? ⟨b, off + k * 12 + 9, none⟩ = some (.int .i64 L[k].2.bits) ∧ w'.cell? ⟨b, off + k * 12 + 10, none⟩ = some (.slice L[k].1.ra L[k].2.routers.length L[k].1.rc) ∧ w'.cell? ⟨b, off + k * 12 + 11, none⟩ = some (.slice L[k].1.va L[k].2.verts.length L[k].1.vc)) := fun w' hX => by
            obtain ⟨b', off', e, h⟩ := Lsas.cells (HL.out.below hX) k hlt
            cases e; exact h
          have HCz : Hid (Held w L[k].1 L[k].2 ∧ Nils L[k].1) := HC.out _ (List.getElem_mem hlt)
          have hr := HAL.out _ (List.getElem_mem hlt)
          have HF : Hid (fromZ (packZ L) (q : Int) = layZ (withHead L[k].2 (sealH L[k].2)) ++ packZ (L.drop (k + 1))) := by
            have h := pack_from L k hlt
            rw [HQ.out] at h; exact h
          have HQ1 : Hid ((packZ (L.take (k + 1))).length = q + (layS L[k]).length) := by
            show _ = _
            rw [pack_take L k hlt, List.length_append, HQ.out]
          have HLL : Hid (((layS L[k]).length : Int) = (sealH L[k].2).len) := seal_lay_len _
          have hlk := lay_le L[k] hr
          have HFT : Hid (Mid L[k].2) := by
            have h := rc_of hr
            exact ⟨by have := h.ll; omega, by have := h.rl; omega, by have := h.vl; omega⟩
          obtain ⟨m, hm⟩ : ∃ m, (layS L[k]).length = m := ⟨_, rfl⟩
          rw [hm] at HQ1 HLL hlk
          clear hm
          generalize packZ (L.drop (k + 1)) = tl at *
          obtain ⟨s, hs⟩ : ∃ s, L[k].1 = s := ⟨_, rfl⟩
          obtain ⟨l, hl⟩ : ∃ l, L[k].2 = l := ⟨_, rfl⟩
          rw [hs, hl] at HCz HCL
          rw [hl] at hr HF HLL HFT
          clear hs hl
          obtain ⟨S, hS⟩ : ∃ S, (sealH l).sum = S := ⟨_, rfl⟩
          have hget := fun X hE hX => get_back ra n rc (packZ L) q l tl S (m : Int) X HN.out.symm hE hX hr HF.out hS HLL.out.symm
          clear hS hr HF HLL HQ
          go_wp2_with fail
          refine (hget _ (HE.out.below HB.out (Nat.le_refl _)) (HSL.out.below HWX.out)).mono ?_
          rintro e w4 ⟨s2, rfl, hh, hb⟩
          replace HWX : Hid (Below W0.heap.size W0 w4) := below_more HWX.out hb HWX.out.size
          replace HB : Hid (Below w.heap.size w w4) := below_more HB.out hb HB.out.size
          have HH2 : Hid (Held w4 s2 l) := hh
          clear hb hh hget
          have HX : Hid (Var (w4.alloc (.cells #[.int .i64 l.head.age, .int .i64 l.head.kind, .int .i64 l.head.id, .int .i64 l.head.adv, .int .i64 l.head.seq, .int .i64 S, .int .i64 (m : Int), .int .i64 l.flags, .slice s2.la l.links.length s2.lc, .int .i64 l.bits, .slice s2.ra l.routers.length s2.rc, .slice s2.va l.verts.length s2.vc] 28)) w4.heap.size [.int .i64 l.head.age, .int .i64 l.head.kind, .int .i64 l.head.id, .int .i64 l.head.adv, .int .i64 l.head.seq, .int .i64 S, .int .i64 (m : Int), .int .i64 l.flags, .slice s2.la l.links.length s2.lc, .int .i64 l.bits, .slice s2.ra l.routers.length s2.rc, .slice s2.va l.verts.length s2.vc]) := var_new w4 [.int .i64 l.head.age, .int .i64 l.head.kind, .int .i64 l.head.id, .int .i64 l.head.adv, .int .i64 l.head.seq, .int .i64 S, .int .i64 (m : Int), .int .i64 l.flags, .slice s2.la l.links.length s2.lc, .int .i64 l.bits, .slice s2.ra l.routers.length s2.rc, .slice s2.va l.verts.length s2.vc] _
          replace HH2 : Hid (Held (w4.alloc (.cells #[.int .i64 l.head.age, .int .i64 l.head.kind, .int .i64 l.head.id, .int .i64 l.head.adv, .int .i64 l.head.seq, .int .i64 S, .int .i64 (m : Int), .int .i64 l.flags, .slice s2.la l.links.length s2.lc, .int .i64 l.bits, .slice s2.ra l.routers.length s2.rc, .slice s2.va l.verts.length s2.vc] 28)) s2 l) := HH2.out.below (below_new' _ _)
          replace HWX : Hid (Below W0.heap.size W0 (w4.alloc (.cells #[.int .i64 l.head.age, .int .i64 l.head.kind, .int .i64 l.head.id, .int .i64 l.head.adv, .int .i64 l.head.seq, .int .i64 S, .int .i64 (m : Int), .int .i64 l.flags, .slice s2.la l.links.length s2.lc, .int .i64 l.bits, .slice s2.ra l.routers.length s2.rc, .slice s2.va l.verts.length s2.vc] 28))) := HWX.out.alloc HWX.out.size _
          replace HB : Hid (Below w.heap.size w (w4.alloc (.cells #[.int .i64 l.head.age, .int .i64 l.head.kind, .int .i64 l.head.id, .int .i64 l.head.adv, .int .i64 l.head.seq, .int .i64 S, .int .i64 (m : Int), .int .i64 l.flags, .slice s2.la l.links.length s2.lc, .int .i64 l.bits, .slice s2.ra l.routers.length s2.rc, .slice s2.va l.verts.length s2.vc] 28))) := HB.out.alloc HB.out.size _
          go_upto_region 18 with fail
          generalize w4.alloc (.cells #[.int .i64 l.head.age, .int .i64 l.head.kind, .int .i64 l.head.id, .int .i64 l.head.adv, .int .i64 l.head.seq, .int .i64 S, .int .i64 (m : Int), .int .i64 l.flags, .slice s2.la l.links.length s2.lc, .int .i64 l.bits, .slice s2.ra l.routers.length s2.rc, .slice s2.va l.verts.length s2.vc] 28) = V at *
          generalize w4.heap.size = nX at *
          obtain ⟨n2, hn2⟩ : ∃ n2 : Int, (q : Int) + (m : Int) = n2 := ⟨_, rfl⟩
          rw [hn2]
          have hwr : IntKind.i64.wrap (n2 - (q : Int)) = (m : Int) := by rw [IntKind.wrap_i64]; omega
          have HN2 : Hid ((q : Int) + (m : Int) = n2) := hn2
          clear hn2
          have HBB : Hid (bodyB (LsaZ.mk (HeadZ.mk l.head.age l.head.kind l.head.id l.head.adv l.head.seq S (m : Int)) l.flags l.links l.bits l.routers l.verts) l = true) := by show _ = _; unfold bodyB; simp [eqLinksB_t, eqVertsB_t]
          have FB : ∀ X, Below V.heap.size V X → Calls Tryd.prog 19 #[.agg #[.int .i64 l.head.age, .int .i64 l.head.kind, .int .i64 l.head.id, .int .i64 l.head.adv, .int .i64 l.head.seq, .int .i64 S, .int .i64 (m : Int), .int .i64 l.flags, .slice s2.la l.links.length s2.lc, .int .i64 l.bits, .slice s2.ra l.routers.length s2.rc, .slice s2.va l.verts.length s2.vc], .agg #[.int .i64 l.head.age, .int .i64 l.head.kind, .int .i64 l.head.id, .int .i64 l.head.adv, .int .i64 l.head.seq, .int .i64 l.head.sum, .int .i64 l.head.len, .int .i64 l.flags, .slice s.la l.links.length s.lc, .int .i64 l.bits, .slice s.ra l.routers.length s.rc, .slice s.va l.verts.length s.vc]] X fun e w' => e = .returned (.bool true) ∧ Hid (Below V.heap.size V w') := by
            intro X hX
            have h2 := HH2.out.below hX
            have hc := body_any s2 s (LsaZ.mk (HeadZ.mk l.head.age l.head.kind l.head.id l.head.adv l.head.seq S (m : Int)) l.flags l.links l.bits l.routers l.verts) l X ⟨h2.hl, h2.hr, h2.hv⟩ (HCz.out.1.below (below_more HB.out hX HB.out.size)) ⟨HFT.out.fits.hl, HFT.out.fits.hr, HFT.out.fits.hv⟩ HFT.out.fits
            rw [HBB.out] at hc
            refine hc.mono ?_
            rintro e w' ⟨rfl, hb⟩
            exact ⟨rfl, hX.trans (hb.mono hX.size)⟩
          have FK1 : ∀ X, Below V.heap.size V X → Calls Tryd.prog 21 #[.agg #[.int .i64 l.head.age, .int .i64 l.head.kind, .int .i64 l.head.id, .int .i64 l.head.adv, .int .i64 l.head.seq, .int .i64 S, .int .i64 (m : Int)]] X fun e w' => e = .returned (.agg #[.int .i64 l.head.kind, .int .i64 l.head.id, .int .i64 l.head.adv]) ∧ Hid (Below V.heap.size V w') := by
            intro X hX
            refine (keyOf_any (HeadZ.mk l.head.age l.head.kind l.head.id l.head.adv l.head.seq S (m : Int)) X).mono ?_
            rintro e w' ⟨rfl, hb⟩
            exact ⟨rfl, hX.trans (hb.mono hX.size)⟩
          have FK2 : ∀ X, Below V.heap.size V X → Calls Tryd.prog 21 #[.agg #[.int .i64 l.head.age, .int .i64 l.head.kind, .int .i64 l.head.id, .int .i64 l.head.adv, .int .i64 l.head.seq, .int .i64 l.head.sum, .int .i64 l.head.len]] X fun e w' => e = .returned (.agg #[.int .i64 l.head.kind, .int .i64 l.head.id, .int .i64 l.head.adv]) ∧ Hid (Below V.heap.size V w') := by
            intro X hX
            refine (keyOf_any l.head X).mono ?_
            rintro e w' ⟨rfl, hb⟩
            exact ⟨rfl, hX.trans (hb.mono hX.size)⟩
          have keepS : Hid (∀ X, Below V.heap.size V X → X.cell? ⟨nX, 0, none⟩ = some (.int .i64 l.head.age) ∧ X.cell? ⟨nX, 1, none⟩ = some (.int .i64 l.head.kind) ∧ X.cell? ⟨nX, 2, none⟩ = some (.int .i64 l.head.id) ∧ X.cell? ⟨nX, 3, none⟩ = some (.int .i64 l.head.adv) ∧ X.cell? ⟨nX, 4, none⟩ = some (.int .i64 l.head.seq) ∧ X.cell? ⟨nX, 5, none⟩ = some (.int .i64 S) ∧ X.cell? ⟨nX, 6, none⟩ = some (.int .i64 (m : Int)) ∧ X.cell? ⟨nX, 7, none⟩ = some (.int .i64 l.flags) ∧ X.cell? ⟨nX, 8, none⟩ = some (.slice s2.la l.links.length s2.lc) ∧ X.cell? ⟨nX, 9, none⟩ = some (.int .i64 l.bits) ∧ X.cell? ⟨nX, 10, none⟩ = some (.slice s2.ra l.routers.length s2.rc) ∧ X.cell? ⟨nX, 11, none⟩ = some (.slice s2.va l.verts.length s2.vc) ∧ X.cell? ⟨b, off + k * 12, none⟩ = some (.int .i64 l.head.age) ∧ X.cell? ⟨b, off + k * 12 + 1, none⟩ = some (.int .i64 l.head.kind) ∧ X.cell? ⟨b, off + k * 12 + 2, none⟩ = some (.int .i64 l.head.id) ∧ X.cell? ⟨b, off + k * 12 + 3, none⟩ = some (.int .i64 l.head.adv) ∧ X.cell? ⟨b, off + k * 12 + 4, none⟩ = some (.int .i64 l.head.seq) ∧ X.cell? ⟨b, off + k * 12 + 5, none⟩ = some (.int .i64 l.head.sum) ∧ X.cell? ⟨b, off + k * 12 + 6, none⟩ = some (.int .i64 l.head.len) ∧ X.cell? ⟨b, off + k * 12 + 7, none⟩ = some (.int .i64 l.flags) ∧ X.cell? ⟨b, off + k * 12 + 8, none⟩ = some (.slice s.la l.links.length s.lc) ∧ X.cell? ⟨b, off + k * 12 + 9, none⟩ = some (.int .i64 l.bits) ∧ X.cell? ⟨b, off + k * 12 + 10, none⟩ = some (.slice s.ra l.routers.length s.rc) ∧ X.cell? ⟨b, off + k * 12 + 11, none⟩ = some (.slice s.va l.verts.length s.vc) ∧ Hid (Below V.heap.size V X)) := fun X hX => by
            have k1 := HX.out.below hX HX.out.lt
            obtain ⟨c0, c1, c2, c3, c4, c5, c6, c7, c8, c9, c10, c11⟩ := HCL.out X (below_more HB.out hX HB.out.size)
            exact ⟨k1.cell 0 rfl, k1.cell 1 rfl, k1.cell 2 rfl, k1.cell 3 rfl, k1.cell 4 rfl, k1.cell 5 rfl, k1.cell 6 rfl, k1.cell 7 rfl, k1.cell 8 rfl, k1.cell 9 rfl, k1.cell 10 rfl, k1.cell 11 rfl, c0, c1, c2, c3, c4, c5, c6, c7, c8, c9, c10, c11, hX⟩
          have hVd : Hid (Below V.heap.size V V.drew) := (Below.refl _ _).drew
          have i0 : (0 : Int) ≤ (k : Int) := by omega
          have i1 : (k : Int) < (L.length : Int) := by omega
          clear HX HCL HH2 HBB HCz
          go_region_held3 (fun X => X.cell? ⟨nX, 0, none⟩ = some (.int .i64 l.head.age) ∧ X.cell? ⟨nX, 1, none⟩ = some (.int .i64 l.head.kind) ∧ X.cell? ⟨nX, 2, none⟩ = some (.int .i64 l.head.id) ∧ X.cell? ⟨nX, 3, none⟩ = some (.int .i64 l.head.adv) ∧ X.cell? ⟨nX, 4, none⟩ = some (.int .i64 l.head.seq) ∧ X.cell? ⟨nX, 5, none⟩ = some (.int .i64 S) ∧ X.cell? ⟨nX, 6, none⟩ = some (.int .i64 (m : Int)) ∧ X.cell? ⟨nX, 7, none⟩ = some (.int .i64 l.flags) ∧ X.cell? ⟨nX, 8, none⟩ = some (.slice s2.la l.links.length s2.lc) ∧ X.cell? ⟨nX, 9, none⟩ = some (.int .i64 l.bits) ∧ X.cell? ⟨nX, 10, none⟩ = some (.slice s2.ra l.routers.length s2.rc) ∧ X.cell? ⟨nX, 11, none⟩ = some (.slice s2.va l.verts.length s2.vc) ∧ X.cell? ⟨b, off + k * 12, none⟩ = some (.int .i64 l.head.age) ∧ X.cell? ⟨b, off + k * 12 + 1, none⟩ = some (.int .i64 l.head.kind) ∧ X.cell? ⟨b, off + k * 12 + 2, none⟩ = some (.int .i64 l.head.id) ∧ X.cell? ⟨b, off + k * 12 + 3, none⟩ = some (.int .i64 l.head.adv) ∧ X.cell? ⟨b, off + k * 12 + 4, none⟩ = some (.int .i64 l.head.seq) ∧ X.cell? ⟨b, off + k * 12 + 5, none⟩ = some (.int .i64 l.head.sum) ∧ X.cell? ⟨b, off + k * 12 + 6, none⟩ = some (.int .i64 l.head.len) ∧ X.cell? ⟨b, off + k * 12 + 7, none⟩ = some (.int .i64 l.flags) ∧ X.cell? ⟨b, off + k * 12 + 8, none⟩ = some (.slice s.la l.links.length s.lc) ∧ X.cell? ⟨b, off + k * 12 + 9, none⟩ = some (.int .i64 l.bits) ∧ X.cell? ⟨b, off + k * 12 + 10, none⟩ = some (.slice s.ra l.routers.length s.rc) ∧ X.cell? ⟨b, off + k * 12 + 11, none⟩ = some (.slice s.va l.verts.length s.vc) ∧ Hid (Below V.heap.size V X)) (with_reducible first | exact keepS.out _ hVd.out | exact keepS.out _ hk1.out | exact keepS.out _ hk2.out | exact keepS.out _ hk3.out | assumption)
            (first | (go_at_call 18; refine (num_any _ _).mono ?_; rintro e w' ⟨rfl, rfl⟩) | (go_at_call 19; refine (FB _ (by go_split_ands; exact Hid.out (by assumption))).mono ?_; rintro e v1 ⟨rfl, hk1⟩) | (go_at_call 21; first | (refine (FK1 _ (by go_split_ands; exact Hid.out (by assumption))).mono ?_; rintro e v2 ⟨rfl, hk2⟩) | (refine (FK2 _ (by go_split_ands; exact Hid.out (by assumption))).mono ?_; rintro e v3 ⟨rfl, hk3⟩)))
          rename_i hH
          have HRX : Hid (Below W0.heap.size W0 v3) := below_more HWX.out hk3.out HWX.out.size
          have HRB : Hid (Below w.heap.size w v3) := below_more HB.out hk3.out HB.out.size
          obtain ⟨r, hr2⟩ : ∃ r : Nat, r = q + m := ⟨_, rfl⟩
          obtain rfl : n2 = (r : Int) := by have := HN2.out; omega
          have HQR : Hid ((packZ (L.take (k + 1))).length = r) := by show _ = _; rw [HQ1.out, hr2]
          clear hH hk1 hk2 hk3 keepS FB FK1 FK2 HB HWX hwr HN2 HQ1 hr2 hVd
          go_wp2
          go_roundw
          case rel => exact ⟨k + 1, r, rfl, by go_num, by omega, HQR.out, HRX.out, HRB.out⟩
          case measure => simp [intOf]; omega
        · have hkL : k = L.length := by omega
          obtain rfl : q = n := by
            have h := HQ.out
            rw [hkL, List.take_length, HN.out] at h; exact h.symm
          have hget := get_end ra q rc (packZ L) _ HN.out.symm (HE.out.below HB.out (Nat.le_refl _)) (HSL.out.below HWX.out)
          clear hkL HQ
          go_wp2_with fail
          refine hget.mono ?_
          rintro e w4 ⟨rfl, hb⟩
          replace HB : Hid (Below w.heap.size w w4) := below_more HB.out hb HB.out.size
          clear hb hget HWX
          have HB9 : Hid (Below w.heap.size w (w4.alloc (.cells #[.int .i64 0, .int .i64 0, .int .i64 0, .int .i64 0, .int .i64 0, .int .i64 0, .int .i64 0, .int .i64 0, .slice none 0 0, .int .i64 0, .slice none 0 0, .slice none 0 0] 28))) := HB.out.alloc HB.out.size _
          go_upto_region 22 with fail
          generalize w4.alloc (.cells #[.int .i64 0, .int .i64 0, .int .i64 0, .int .i64 0, .int .i64 0, .int .i64 0, .int .i64 0, .int .i64 0, .slice none 0 0, .int .i64 0, .slice none 0 0, .slice none 0 0] 28) = V at *
          clear HB
          go_wp2_with fail
          refine (num_any _ _).mono ?_
          rintro e w6 ⟨rfl, hw6⟩
          subst w6
          go_wp2_with fail
          refine (awake_any _ (HE.out.below HB9.out (Nat.le_refl _))).mono ?_
          rintro e wz ⟨rfl, hb⟩
          replace HB9 : Hid (Below w.heap.size w wz) := below_more HB9.out hb HB9.out.size
          clear hb
          go_wp2
          go_ret
          exact ⟨rfl, HB9.out⟩
end Go.Proofs.YtoanjhccbmifmaaDoor
