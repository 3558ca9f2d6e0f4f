/- The document's Drop. -/
import Derived.Test.YtmcemhkhgccojaaD8A
import Derived.Test.YtmcemhkhgccojaaX8D
import Derived.Test.YtmcemhkhgccojaaOT
import Derived.Test.YtmcemhkhgccojaaS8W13
namespace Go.Proofs.Ytmcemhkhgccojaa
open Go.RowKit
set_option linter.unusedVariables false

theorem delL_take (L : List Row) (p i : Nat) (hi : i < L.length) : delL (L.take (i + 1)) p = delL (L.take i) p ++ (if i = p then [] else [L[i]]) := by
  unfold delL
  rw [← List.take_append_getElem hi]
  have hl : (L.take i).length = i := by rw [List.length_take]; omega
  by_cases h : i = p
  · subst h
    rw [if_pos rfl, List.append_nil, List.take_append_of_le_length (by omega), List.drop_of_length_le (by rw [List.length_append, hl]; simp), List.drop_of_length_le (by omega)]
  · rw [if_neg h]
    rcases Nat.lt_or_gt_of_ne h with hlt | hgt
    · have e1 : (L.take i ++ [L[i]]).take p = L.take i ++ [L[i]] := List.take_of_length_le (by rw [List.length_append, hl]; simp; omega)
      have e2 : (L.take i ++ [L[i]]).drop (p + 1) = [] := List.drop_of_length_le (by rw [List.length_append, hl]; simp; omega)
      have e3 : (L.take i).take p = L.take i := List.take_of_length_le (by omega)
      have e4 : (L.take i).drop (p + 1) = [] := List.drop_of_length_le (by omega)
      rw [e1, e2, e3, e4]
      simp
    · rw [List.take_append_of_le_length (by omega), List.drop_append_of_le_length (by omega), List.append_assoc]
theorem own_is8 {w : World} {N e size n : Nat} {v : Value} {xs : List Value} (h : w.ownsRow N e size v n xs) : ∃ a c, v = .slice a n c := by
  rcases h.2 with ⟨h1, h0⟩ | ⟨g, cap, cur, h1, _⟩
  · exact ⟨none, 0, by rw [h1, h0]⟩
  · exact ⟨some ⟨g, 0, none⟩, cap, h1⟩
theorem rising_del {L : List Row} (h : Rising L) (p : Nat) : Rising (delL L p) := rising_erase h p
/-- Rows of the call's own. -/
def OwnR (w : World) (N : Nat) (v : Value) (M : List Row) : Prop := w.ownsRow N 39 12 v M.length (cellsOf rowC M)
theorem ownR_snoc {w : World} {N : Nat} {v : Value} {M : List Row} {r : Row} (h : w.ownsRow N 39 12 v (M.length + 1) (cellsOf rowC M ++ rowC r)) : OwnR w N v (M ++ [r]) := by
  unfold OwnR cellsOf at *
  rw [List.flatMap_append, List.length_append]
  simpa using h
set_option maxHeartbeats 1600000 in
theorem ddrop_no (N b : Nat) (most : Int) (lv : Value) (L : List Row) (k : KeyZ) (w : World) (h : Keeps w N b most lv L) (ht : thereB L k = false) :
    Calls Try.prog 17 #[.pointer (some ⟨b, 0, none⟩), .agg (keyV k)] w fun e w' => e = .returned (.bool false) ∧ Below w.heap.size w w' := by
  have HB : Hid (Below w.heap.size w (w.alloc (.cells (keyV k) 41))) := below_new' _ _
  have HV : Hid (Var (w.alloc (.cells (keyV k) 41)) w.heap.size [.int .i64 k.kind, .int .i64 k.id, .int .i64 k.adv]) := var_new w [.int .i64 k.kind, .int .i64 k.id, .int .i64 k.adv] _
  have CA := at_any N b most lv L k (w.alloc (.cells (keyV k) 41)) (h.below HB.out)
  rw [show atZ L k = -1 by unfold atZ; rw [ht]; rfl] at CA
  clear h ht
  go_enter Try.func17, Try.ntmps17
  go_upto_region 1 with fail
  generalize (w.alloc (.cells (keyV k) 41)) = W at *
  have d0 := HV.out.cell 0 rfl
  have d1 := HV.out.cell 1 rfl
  have d2 := HV.out.cell 2 rfl
  go_wp2_with fail
  refine CA.mono ?_
  rintro e w2 ⟨rfl, hb⟩
  have HB2 : Hid (Below w.heap.size w w2) := below_more HB.out hb HB.out.size
  clear hb CA d0 d1 d2 HV HB
  go_wp2
  go_ret
  exact ⟨rfl, HB2.out⟩
set_option maxHeartbeats 6400000 in
set_option maxRecDepth 20000 in
theorem ddrop_yes (N b : Nat) (most : Int) (lv : Value) (L : List Row) (k : KeyZ) (w : World) (h : Keeps w N b most lv L) (hNw : N ≤ w.heap.size) (ht : thereB L k = true) :
    Calls Try.prog 17 #[.pointer (some ⟨b, 0, none⟩), .agg (keyV k)] w fun e w' => e = .returned (.bool true) ∧ ∃ lv', Keeps w' N b most lv' (delL L (posZ L k)) ∧ Turned b lv.ownBlock w w' ∧ Hence w lv lv' := by
  have HB : Hid (Below w.heap.size w (w.alloc (.cells (keyV k) 41))) := below_new' _ _
  have HV : Hid (Var (w.alloc (.cells (keyV k) 41)) w.heap.size [.int .i64 k.kind, .int .i64 k.id, .int .i64 k.adv]) := var_new w [.int .i64 k.kind, .int .i64 k.id, .int .i64 k.adv] _
  have CA := at_any N b most lv L k (w.alloc (.cells (keyV k) 41)) (h.below HB.out)
  rw [show atZ L k = (posZ L k : Int) by unfold atZ; rw [ht]; rfl] at CA
  obtain ⟨hp, -⟩ := thereB_yes ht
  obtain ⟨p, hpp⟩ : ∃ p, posZ L k = p := ⟨_, rfl⟩
  rw [hpp] at CA hp
  have HPP : Hid (posZ L k = p) := hpp
  obtain ⟨a, c, hlv, -, hLc, -, -, -⟩ := h.lies
  have HLV : Hid (lv = .slice a L.length c) := hlv
  have HK : Hid (Keeps w N b most lv L) := h
  have HNw : Hid (N ≤ w.heap.size) := hNw
  have hlen : L.length ≤ 1000000 := h.len
  have hpI : (p : Int) < (L.length : Int) := by omega
  have hp0 : ¬ ((p : Int) < 0) := by omega
  obtain ⟨ki, hki, hkz0, hkz1, hkz2⟩ := info_parts info_lsa
  have HI : Hid (Try.prog.info? 39 = some ki) := hki
  have H0 : Hid (_ = _) := hkz0
  have H1 : Hid (_ = _) := hkz1
  have H2 : Hid (_ = _) := hkz2
  clear h ht hlv hpp hNw hki hkz0 hkz1 hkz2
  go_enter Try.func17, Try.ntmps17
  go_upto_region 1 with fail
  generalize (w.alloc (.cells (keyV k) 41)) = W at *
  have d0 := HV.out.cell 0 rfl
  have d1 := HV.out.cell 1 rfl
  have d2 := HV.out.cell 2 rfl
  go_wp2_with fail
  refine CA.mono ?_
  rintro e w2 ⟨rfl, hb⟩
  have HB2 : Hid (Below w.heap.size w w2) := below_more HB.out hb HB.out.size
  clear hb CA d0 d1 d2 HV HB
  go_wp2_with fail
  go_loopw [6, 7] (fun u t wr => ∃ i : Nat, i ≤ L.length ∧ t = .int .i64 (i : Int) ∧ Hid (OwnR wr w.heap.size u (delL (L.take i) p)) ∧ Hid (Below w.heap.size w wr)) (fun _ t _ => L.length - (intOf t).toNat)
  case atStart => exact ⟨0, by omega, rfl, by show World.ownsRow _ _ _ _ _ _ _; simp [delL]; exact World.ownsRow_nil _ _ _ _, HB2.out⟩
  case round =>
    clear HB2
    obtain ⟨i, hi, rfl, HD, HB⟩ := hrel
    have b1 := (HK.out.below HB.out).obj.cell 1 rfl
    rw [HLV.out] at b1
    by_cases hlt : i < L.length
    · have hiI : (i : Int) < (L.length : Int) := by omega
      obtain ⟨g, c', e, -, -, -, hrow, -⟩ := (HK.out.below HB.out).at i hlt
      obtain rfl : a = some ⟨g, 0, none⟩ := by
        have e2 := HLV.out
        rw [e] at e2
        simp only [Value.slice.injEq] at e2
        exact e2.1.symm
      have HTK : Hid (delL (L.take (i + 1)) p = delL (L.take i) p ++ (if i = p then [] else [L[i]])) := delL_take L p i hlt
      have hdl : (delL (L.take i) p).length ≤ 1000000 := by
        unfold delL
        simp only [List.length_append, List.length_take, List.length_drop]
        omega
      obtain ⟨r, hr⟩ : ∃ r, L[i] = r := ⟨_, rfl⟩
      rw [hr] at hrow HTK
      clear e hr
      obtain ⟨c0, c1, c2, c3, c4, c5, c6, c7, c8, c9, c10, c11⟩ := hrow
      by_cases hip : i = p
      · have hbb : ((i : Int) != (p : Int)) = false := by simp [hip]
        have HD2 : Hid (OwnR wr w.heap.size u6 (delL (L.take (i + 1)) p)) := by
          show OwnR _ _ _ _
          rw [HTK.out, if_pos hip, List.append_nil]; exact HD.out
        clear HTK HD hip
        go_wp2
        clear c0 c1 c2 c3 c4 c5 c6 c7 c8 c9 c10 c11 b1
        go_roundw
        case rel => exact ⟨i + 1, by omega, by go_num, HD2, HB⟩
        case measure => simp [intOf]; omega
      · have hbb : ((i : Int) != (p : Int)) = true := by simp; omega
        have HIP : Hid (¬ i = p) := hip
        have HB6 : Hid (Below w.heap.size w (wr.alloc (.cells (lsaA r.1 r.2) 39))) := HB.out.alloc HB.out.size _
        have HD6 : Hid (OwnR (wr.alloc (.cells (lsaA r.1 r.2) 39)) w.heap.size u6 (delL (L.take i) p)) := own_below HD.out (below_new' _ _)
        have HL6 : Hid (Lies (wr.alloc (.cells (lsaA r.1 r.2) 39)) (some ⟨wr.heap.size, 0, none⟩) (rowC r)) := lies_new wr (rowC r) _
        have hsz := HB6.out.size
        clear hip
        go_wp2_with (at_builtin; go_must (refine wpList_append_hence (wr.alloc (.cells (lsaA r.1 r.2) 39)) rfl _ _ 53 rfl w.heap.size 39 ki _ 12 144 Try.underlying53 HI.out H0.out H1.out H2.out rfl (by decide) u6 _ _ rfl HD6.out _ 1 _ (rowC r) rfl rfl HL6.out.at (rowC_one r) (by unfold maxLen; omega) (by omega) hsz ?_))
        intro v' w6 ho6 hg6 hh6
        have HB7 : Hid (Below w.heap.size w w6) := HB6.out.trans ((Below.refl _ _).grown hg6 hsz (fun k hk => (World.ownsRow.lt HD6.out k hk).1))
        have HD7 : Hid (OwnR w6 w.heap.size v' (delL (L.take (i + 1)) p)) := by
          show OwnR _ _ _ _
          rw [HTK.out, if_neg HIP.out]
          exact ownR_snoc ho6
        clear HB6 HD6 HL6 ho6 hg6 hh6 HTK HB HD c0 c1 c2 c3 c4 c5 c6 c7 c8 c9 c10 c11 b1
        go_wp2
        go_roundw
        case rel => exact ⟨i + 1, by omega, by go_num, HD7, HB7⟩
        case measure => simp [intOf]; omega
    · obtain rfl : i = L.length := by omega
      have hnl : ¬ ((L.length : Int) < (L.length : Int)) := by omega
      have f1 := (HK.out.below HB.out).obj.frozen 1
      obtain ⟨a9, c9, rfl⟩ := own_is8 HD.out
      obtain ⟨U, hU⟩ : ∃ U : Value, .slice a9 (delL (L.take L.length) p).length c9 = U := ⟨_, rfl⟩
      have HU : Hid (.slice a9 (delL (L.take L.length) p).length c9 = U) := hU
      have HD9 : Hid (OwnR wr w.heap.size U (delL (L.take L.length) p)) := by rw [← hU]; exact HD.out
      clear hU
      have HEND : Hid (Keeps (wr.setCell ⟨b, 1, none⟩ U) N b most U (delL L (posZ L k)) ∧ Turned b lv.ownBlock w (wr.setCell ⟨b, 1, none⟩ U) ∧ Hence w lv U) := by
        have ho := HD9.out
        rw [List.take_length] at ho
        have hh : Hence w lv U := .inr fun x hx => (World.ownsRow.lt ho x hx).1
        refine ⟨?_, (Turned.of b _ HB.out).trans (Turned.set b _ wr ⟨b, 1, none⟩ U (.inl rfl)), hh⟩
        rw [HPP.out]
        refine HK.out.put (ownsRow_base ho HNw.out) (Turned.of b _ HB.out) (HB.out.block b HK.out.obj.lt) hh (fun r hr => HK.out.row (delL_mem hr)) (rising_del HK.out.rising p) ?_
        have := delL_len L p hp
        omega
      rw [← HU.out] at HEND
      clear HD HB HD9 HU
      go_wp2
      go_ret
      have hE := HEND.out
      rw [List.take_length] at hE
      exact ⟨rfl, _, hE.1, hE.2.1, hE.2.2⟩
end Go.Proofs.Ytmcemhkhgccojaa
