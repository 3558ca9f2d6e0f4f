/- The Keys of those with such a head: those that are dead, those of adv that are old. -/
import Derived.Test.YtbogphhbjmapgaaS9W4
import Derived.Test.YtbogphhbjmapgaaS8W16
namespace Go.Proofs.Ytbogphhbjmapgaa
open Go.RowKit
set_option linter.unusedVariables false

theorem below_cell {w w' : World} {N : Nat} (h : Below N w w') (x : Addr) (hx : x.block < N) : w'.cell? x = w.cell? x := World.cell?_of_block (w := w) (h.block x.block hx)
def deadH (h : HeadZ) : Bool := deadB h.age
def oldH (adv : Int) (h : HeadZ) : Bool := (h.adv == adv) && oldB h.age
/-- How a call ends that tells the Keys of some. -/
def KeysEnd (w : World) (p : HeadZ → Bool) (L : List Row) (e : Ending) (w' : World) : Prop := ∃ v, e = .returned v ∧ OwnK w' w.heap.size v (keysOf p (L.map fun r => r.2.head)) ∧ Below w.heap.size w w'
/-- The heads, beside the list v. -/
def HeadsAt (w0 w : World) (g c : Nat) (H : List HeadZ) (v : Value) : Prop := w.ownsRow w0.heap.size 37 7 (.slice (some ⟨g, 0, none⟩) H.length c) H.length (cellsOf hdC H) ∧ ∀ k, v.ownBlock = some k → k ≠ g
theorem HeadsAt.below {w0 w w' : World} {g c : Nat} {H : List HeadZ} {v : Value} (h : HeadsAt w0 w g c H v) (hb : Below w.heap.size w w') : HeadsAt w0 w' g c H v := ⟨own_below h.1 hb, h.2⟩
theorem HeadsAt.grown {w0 w w' : World} {g c : Nat} {H : List HeadZ} {v v' : Value} (h : HeadsAt w0 w g c H v) (hg : w.grownBy w' v.ownBlock) (hh : Hence w v v') : HeadsAt w0 w' g c H v' := by
  have hgl := (World.ownsRow.lt h.1 g rfl).2
  refine ⟨own_apart h.1 (Turned.grown (b := w.heap.size) hg) (fun e => by simp [Value.ownBlock] at e; omega) (fun k hk e => h.2 k hk (by simp [Value.ownBlock] at e; exact e.symm)), fun k hk => ?_⟩
  rcases hh with hh | hh
  · exact h.2 k (by rw [← hh]; exact hk)
  · have := hh k hk; omega
theorem heads_at {w0 w : World} {g c : Nat} {H : List HeadZ} {v : Value} (h : HeadsAt w0 w g c H v) (i : Nat) (hi : i < H.length) (j : Nat) (hj : j < 7) : w.cell? ⟨g, i * 7 + j, none⟩ = some ((hdC H[i])[j]'(by rw [hdC_length]; exact hj)) := by
  obtain ⟨b', off', e, hr⟩ := (owns_lies h.1).cell hdC 7 hdC_length (by rintro rfl; simp at hi) (by omega)
  cases e
  have := hr i j hi hj
  rw [Nat.zero_add] at this
  rw [this]; exact List.getElem?_eq_getElem _
theorem isDeadH_any (h : HeadZ) (w : World) : Calls Try.prog 43 #[.agg (headA h)] w fun e w' => e = .returned (.bool (deadH h)) ∧ Below w.heap.size w w' := isDead_any h w
set_option maxHeartbeats 1600000 in
theorem oldC_any (cb : Nat) (adv : Int) (h : HeadZ) (w : World) (hc : w.cell? ⟨cb, 0, none⟩ = some (.int .i64 adv)) (hlt : cb < w.heap.size) :
    Calls Try.prog 47 #[.agg (headA h), .pointer (some ⟨cb, 0, none⟩)] w fun e w' => e = .returned (.bool (oldH adv h)) ∧ Below w.heap.size w w' := by
  have HB : Hid (Below w.heap.size w (w.alloc (.cells (headA h) 37))) := below_new' _ _
  have hc2 : (w.alloc (.cells (headA h) 37)).cell? ⟨cb, 0, none⟩ = some (.int .i64 adv) := by rw [below_cell HB.out ⟨cb, 0, none⟩ hlt]; exact hc
  by_cases he : h.adv = adv
  · obtain ⟨v, hv, hd⟩ : ∃ v, stZ h.age = v ∧ ((v = 3 ∧ oldB h.age = false) ∨ (v = 1 ∧ oldB h.age = true) ∨ (v = 0 ∧ oldB h.age = false)) := by
      refine ⟨_, rfl, ?_⟩
      unfold stZ oldB
      by_cases h1 : h.age < 1800
      · rw [if_pos h1]; exact .inl ⟨rfl, by simp; omega⟩
      · by_cases h2 : h.age < 3600
        · rw [if_neg h1, if_pos h2]; exact .inr (.inl ⟨rfl, by simp; omega⟩)
        · rw [if_neg h1, if_neg h2]; exact .inr (.inr ⟨rfl, by simp; omega⟩)
    have CS := fun W => state_at h.age v hv W
    have ho : oldH adv h = oldB h.age := by unfold oldH; rw [he]; simp
    rw [ho]
    clear ho
    rcases hd with ⟨rfl, hd⟩ | ⟨rfl, hd⟩ | ⟨rfl, hd⟩ <;> rw [hd] <;> clear hd
    all_goals
      go_enter Try.func47, Try.ntmps47
      go_wp2_with fail
      refine (CS _).mono ?_
      rintro e w' ⟨rfl, rfl⟩
      go_wp2
      go_ret
      exact ⟨rfl, HB.out⟩
  · have ho : oldH adv h = false := by unfold oldH; simp [he]
    rw [ho]
    clear ho
    go_enter Try.func47, Try.ntmps47
    go_wp2
    go_ret
    exact ⟨rfl, HB.out⟩
set_option maxHeartbeats 6400000 in
set_option maxRecDepth 20000 in
theorem keys_dead (N b : Nat) (most : Int) (lv : Value) (L : List Row) (w : World) (h : Keeps w N b most lv L) :
    Calls Try.prog 46 #[.pointer (some ⟨b, 0, none⟩), .func (.func 43) #[] #[]] w (KeysEnd w deadH L) := by
  have HLN : Hid (L.length ≤ 1000000) := h.len
  have CH := heads_any N b most lv L w h
  obtain ⟨ki, hki, hkz0, hkz1, hkz2⟩ := info_parts info_key
  have HI : Hid (Try.prog.info? 25 = some ki) := hki
  have H0 : Hid (_ = _) := hkz0
  have H1 : Hid (_ = _) := hkz1
  have H2 : Hid (_ = _) := hkz2
  obtain ⟨H, hH⟩ : ∃ H, (L.map fun r => r.2.head) = H := ⟨_, rfl⟩
  have HLH : Hid (L.length = H.length) := by show _ = _; rw [← hH, List.length_map]
  have HHE : Hid ((L.map fun r => r.2.head) = H) := hH
  unfold HeadsEnd at CH
  rw [hH, HLH.out] at CH
  rw [HLH.out] at HLN
  clear h hki hkz0 hkz1 hkz2 hH
  go_enter Try.func46, Try.ntmps46
  go_wp2_with fail
  refine CH.mono ?_
  rintro e w1 ⟨g, c, rfl, hg, hown, hb⟩
  have HG : Hid (w.heap.size ≤ g) := hg
  have HO1 : Hid (HeadsAt w w1 g c H (.slice none 0 0)) := ⟨hown, fun k hk => by simp [Value.ownBlock] at hk⟩
  have HB1 : Hid (Below w.heap.size w w1) := hb
  clear hg hown hb CH
  go_wp2_with fail
  go_loopw [5, 11] (fun u t wr => ∃ i : Nat, i ≤ H.length ∧ t = .int .i64 i ∧ Hid (OwnK wr w.heap.size u (keysOf deadH (H.take i))) ∧ Hid (HeadsAt w wr g c H u) ∧ Hid (Below w.heap.size w wr)) (fun _ t _ => H.length - (intOf t).toNat)
  case atStart => exact ⟨0, by omega, rfl, World.ownsRow_nil _ _ _ _, HO1.out, HB1.out⟩
  case round =>
    clear HO1 HB1
    obtain ⟨i, hi, rfl, HD, HHS, HB⟩ := hrel
    by_cases hlt : i < H.length
    · have hiI : (i : Int) < (H.length : Int) := by omega
      have hln : H.length ≤ 1000000 := HLN.out
      obtain ⟨h, hh⟩ : ∃ h, H[i] = h := ⟨_, rfl⟩
      have hrow : ∀ j (hj : j < 7), wr.cell? ⟨g, i * 7 + j, none⟩ = some ((hdC h)[j]) := fun j hj => by rw [← hh] ; exact heads_at HHS.out i hlt j hj
      have HKY : Hid (keysOf deadH (H.take (i + 1)) = keysOf deadH (H.take i) ++ (if deadH h then [keyZ h] else [])) := by
        show _ = _
        rw [keysOf_take _ _ _ hlt, hh]
      have HKL : Hid ((keysOf deadH (H.take i)).length ≤ 1000000) := by
        show _ ≤ _
        have := keysOf_len deadH (H.take i)
        rw [List.length_take] at this
        omega
      have c0 := hrow 0 (by omega)
      have c1 := hrow 1 (by omega)
      have c2 := hrow 2 (by omega)
      have c3 := hrow 3 (by omega)
      have c4 := hrow 4 (by omega)
      have c5 := hrow 5 (by omega)
      have c6 := hrow 6 (by omega)
      simp only [hdC, List.getElem_cons_zero, List.getElem_cons_succ, Nat.add_zero] at c0 c1 c2 c3 c4 c5 c6
      have HBX : Hid (Var (wr.alloc (.cells (headA h) 37)) wr.heap.size (hdC h)) := var_new wr (hdC h) _
      have HB2 : Hid (Below wr.heap.size wr (wr.alloc (.cells (headA h) 37))) := below_new' _ _
      clear hrow hh
      go_upto_region 5 with fail
      clear c0 c1 c2 c3 c4 c5 c6
      generalize wr.alloc (.cells (headA h) 37) = V at *
      have c0 := HBX.out.cell 0 rfl
      have c1 := HBX.out.cell 1 rfl
      have c2 := HBX.out.cell 2 rfl
      have c3 := HBX.out.cell 3 rfl
      have c4 := HBX.out.cell 4 rfl
      have c5 := HBX.out.cell 5 rfl
      have c6 := HBX.out.cell 6 rfl
      have CD := isDeadH_any h V
      cases hpp : deadH h
      · rw [hpp] at CD
        go_wp2_with fail
        refine CD.mono ?_
        rintro e w2 ⟨rfl, hb2⟩
        have HB3 : Hid (Below wr.heap.size wr w2) := below_more HB2.out hb2 HB2.out.size
        have HHS2 : Hid (HeadsAt w w2 g c H u5) := HHS.out.below HB3.out
        have HBW2 : Hid (Below w.heap.size w w2) := below_more HB.out HB3.out HB.out.size
        have HD2 : Hid (OwnK w2 w.heap.size u5 (keysOf deadH (H.take (i + 1)))) := by
          show OwnK _ _ _ _
          rw [HKY.out, hpp]
          simp only [Bool.false_eq_true, if_false, List.append_nil]
          exact own_below HD.out HB3.out
        clear c0 c1 c2 c3 c4 c5 c6 CD hb2 HKY
        go_wp2
        go_roundw
        case rel => exact ⟨i + 1, by omega, by go_num, HD2, HHS2, HBW2⟩
        case measure => simp [intOf]; omega
      · rw [hpp] at CD
        go_wp2_with fail
        refine CD.mono ?_
        rintro e w4 ⟨rfl, hb4⟩
        have HB3 : Hid (Below wr.heap.size wr w4) := below_more HB2.out hb4 HB2.out.size
        have HHS4 : Hid (HeadsAt w w4 g c H u5) := HHS.out.below HB3.out
        have HT4 : Hid (Below w.heap.size w w4) := below_more HB.out HB3.out HB.out.size
        have HD4 : Hid (OwnK w4 w.heap.size u5 (keysOf deadH (H.take i))) := own_below HD.out HB3.out
        have HBX5 : Hid (Var w4 wr.heap.size (hdC h)) := HBX.out.below hb4 HBX.out.lt
        clear c0 c1 c2 c3 c4 c5 c6 CD hb4 HBX HHS HB HB2 HB3 HD
        have c0 := HBX5.out.cell 0 rfl
        have c1 := HBX5.out.cell 1 rfl
        have c2 := HBX5.out.cell 2 rfl
        have c3 := HBX5.out.cell 3 rfl
        have c4 := HBX5.out.cell 4 rfl
        have c5 := HBX5.out.cell 5 rfl
        have c6 := HBX5.out.cell 6 rfl
        have CK := akey_any h w4
        go_wp2_with fail
        refine CK.mono ?_
        rintro e w5 ⟨rfl, hb5⟩
        obtain ⟨k, hk⟩ : ∃ k, keyZ h = k := ⟨_, rfl⟩
        have HKQ : Hid (keyZ h = k) := hk
        have HB5 : Hid (Below w4.heap.size w4 w5) := hb5
        rw [show keyA h = keyV (keyZ h) from rfl, hk]
        clear hb5 CK c0 c1 c2 c3 c4 c5 c6 hk
        have HB6 : Hid (Below w4.heap.size w4 (w5.alloc (.cells #[.int .i64 k.kind, .int .i64 k.id, .int .i64 k.adv] 25))) := HB5.out.alloc HB5.out.size _
        have HD6 : Hid (OwnK (w5.alloc (.cells #[.int .i64 k.kind, .int .i64 k.id, .int .i64 k.adv] 25)) w.heap.size u5 (keysOf deadH (H.take i))) := own_below HD4.out HB6.out
        have HHS6 : Hid (HeadsAt w (w5.alloc (.cells #[.int .i64 k.kind, .int .i64 k.id, .int .i64 k.adv] 25)) g c H u5) := HHS4.out.below HB6.out
        have HT6 : Hid (Below w.heap.size w (w5.alloc (.cells #[.int .i64 k.kind, .int .i64 k.id, .int .i64 k.adv] 25))) := below_more HT4.out HB6.out HT4.out.size
        have HL6 : Hid (Lies (w5.alloc (.cells #[.int .i64 k.kind, .int .i64 k.id, .int .i64 k.adv] 25)) (some ⟨w5.heap.size, 0, none⟩) (keyC k)) := lies_new w5 (keyC k) _
        have hkl := HKL.out
        have hsz := HT6.out.size
        clear HHS4 HT4 HD4 HBX5 HB5 HB6
        go_wp2_with (at_builtin; go_must (refine wpList_append_hence (w5.alloc (.cells #[.int .i64 k.kind, .int .i64 k.id, .int .i64 k.adv] 25)) rfl _ _ 47 rfl w.heap.size 25 ki _ 3 24 Try.underlying47 HI.out H0.out H1.out H2.out rfl (by decide) u5 _ _ rfl HD6.out _ 1 _ (keyC k) rfl rfl HL6.out.at (fun u hu => by simp [keyC] at hu; rcases hu with rfl | rfl | rfl <;> rfl) (by unfold maxLen; omega) (by omega) hsz ?_))
        intro v' w6 ho6 hg6 hh6
        have HHS7 : Hid (HeadsAt w w6 g c H v') := HHS6.out.grown hg6 hh6
        have HT7 : Hid (Below w.heap.size w w6) := HT6.out.trans ((Below.refl _ _).grown hg6 hsz (fun k hk => (World.ownsRow.lt HD6.out k hk).1))
        have HD7 : Hid (OwnK w6 w.heap.size v' (keysOf deadH (H.take (i + 1)))) := by
          show OwnK _ _ _ _
          rw [HKY.out, hpp, HKQ.out]
          simp only [if_true]
          exact ownK_snoc ho6
        clear HHS6 HT6 HD6 HL6 ho6 hg6 hh6 HKY
        go_wp2
        go_roundw
        case rel => exact ⟨i + 1, by omega, by go_num, HD7, HHS7, HT7⟩
        case measure => simp [intOf]; omega
    · have hie : i = H.length := by omega
      subst hie
      have HEND : Hid (KeysEnd w deadH L (.returned u5) wr) := by
        have h1 := HD.out
        rw [List.take_length, ← HHE.out] at h1
        exact ⟨u5, rfl, h1, HB.out⟩
      have hnl : ¬ ((H.length : Int) < (H.length : Int)) := by omega
      clear HD HHS HB
      go_wp2
      go_ret
      exact HEND.out
set_option maxHeartbeats 6400000 in
set_option maxRecDepth 20000 in
theorem keys_old (N b : Nat) (most : Int) (lv : Value) (L : List Row) (cb : Nat) (adv : Int) (w : World) (h : Keeps w N b most lv L) (hc : w.cell? ⟨cb, 0, none⟩ = some (.int .i64 adv)) (hlt : cb < w.heap.size) :
    Calls Try.prog 46 #[.pointer (some ⟨b, 0, none⟩), .func (.func 47) #[] #[.pointer (some ⟨cb, 0, none⟩)]] w (KeysEnd w (oldH adv) L) := by
  have HLN : Hid (L.length ≤ 1000000) := h.len
  have CH := heads_any N b most lv L w h
  have HC0 : Hid (w.cell? ⟨cb, 0, none⟩ = some (.int .i64 adv) ∧ cb < w.heap.size) := ⟨hc, hlt⟩
  clear hc hlt
  obtain ⟨ki, hki, hkz0, hkz1, hkz2⟩ := info_parts info_key
  have HI : Hid (Try.prog.info? 25 = some ki) := hki
  have H0 : Hid (_ = _) := hkz0
  have H1 : Hid (_ = _) := hkz1
  have H2 : Hid (_ = _) := hkz2
  obtain ⟨H, hH⟩ : ∃ H, (L.map fun r => r.2.head) = H := ⟨_, rfl⟩
  have HLH : Hid (L.length = H.length) := by show _ = _; rw [← hH, List.length_map]
  have HHE : Hid ((L.map fun r => r.2.head) = H) := hH
  unfold HeadsEnd at CH
  rw [hH, HLH.out] at CH
  rw [HLH.out] at HLN
  clear h hki hkz0 hkz1 hkz2 hH
  go_enter Try.func46, Try.ntmps46
  go_wp2_with fail
  refine CH.mono ?_
  rintro e w1 ⟨g, c, rfl, hg, hown, hb⟩
  have HG : Hid (w.heap.size ≤ g) := hg
  have HO1 : Hid (HeadsAt w w1 g c H (.slice none 0 0)) := ⟨hown, fun k hk => by simp [Value.ownBlock] at hk⟩
  have HB1 : Hid (Below w.heap.size w w1) := hb
  clear hg hown hb CH
  go_wp2_with fail
  go_loopw [5, 11] (fun u t wr => ∃ i : Nat, i ≤ H.length ∧ t = .int .i64 i ∧ Hid (OwnK wr w.heap.size u (keysOf (oldH adv) (H.take i))) ∧ Hid (HeadsAt w wr g c H u) ∧ Hid (Below w.heap.size w wr)) (fun _ t _ => H.length - (intOf t).toNat)
  case atStart => exact ⟨0, by omega, rfl, World.ownsRow_nil _ _ _ _, HO1.out, HB1.out⟩
  case round =>
    clear HO1 HB1
    obtain ⟨i, hi, rfl, HD, HHS, HB⟩ := hrel
    by_cases hlt : i < H.length
    · have hiI : (i : Int) < (H.length : Int) := by omega
      have hln : H.length ≤ 1000000 := HLN.out
      obtain ⟨h, hh⟩ : ∃ h, H[i] = h := ⟨_, rfl⟩
      have hrow : ∀ j (hj : j < 7), wr.cell? ⟨g, i * 7 + j, none⟩ = some ((hdC h)[j]) := fun j hj => by rw [← hh] ; exact heads_at HHS.out i hlt j hj
      have HKY : Hid (keysOf (oldH adv) (H.take (i + 1)) = keysOf (oldH adv) (H.take i) ++ (if (oldH adv) h then [keyZ h] else [])) := by
        show _ = _
        rw [keysOf_take _ _ _ hlt, hh]
      have HKL : Hid ((keysOf (oldH adv) (H.take i)).length ≤ 1000000) := by
        show _ ≤ _
        have := keysOf_len (oldH adv) (H.take i)
        rw [List.length_take] at this
        omega
      have c0 := hrow 0 (by omega)
      have c1 := hrow 1 (by omega)
      have c2 := hrow 2 (by omega)
      have c3 := hrow 3 (by omega)
      have c4 := hrow 4 (by omega)
      have c5 := hrow 5 (by omega)
      have c6 := hrow 6 (by omega)
      simp only [hdC, List.getElem_cons_zero, List.getElem_cons_succ, Nat.add_zero] at c0 c1 c2 c3 c4 c5 c6
      have HBX : Hid (Var (wr.alloc (.cells (headA h) 37)) wr.heap.size (hdC h)) := var_new wr (hdC h) _
      have HB2 : Hid (Below wr.heap.size wr (wr.alloc (.cells (headA h) 37))) := below_new' _ _
      clear hrow hh
      go_upto_region 5 with fail
      clear c0 c1 c2 c3 c4 c5 c6
      generalize wr.alloc (.cells (headA h) 37) = V at *
      have c0 := HBX.out.cell 0 rfl
      have c1 := HBX.out.cell 1 rfl
      have c2 := HBX.out.cell 2 rfl
      have c3 := HBX.out.cell 3 rfl
      have c4 := HBX.out.cell 4 rfl
      have c5 := HBX.out.cell 5 rfl
      have c6 := HBX.out.cell 6 rfl
      have CD := oldC_any cb adv h V (by rw [below_cell (below_more HB.out HB2.out HB.out.size) ⟨cb, 0, none⟩ HC0.out.2]; exact HC0.out.1) (by have := HB.out.size; have := HB2.out.size; have := HC0.out.2; omega)
      cases hpp : (oldH adv) h
      · rw [hpp] at CD
        go_wp2_with fail
        refine CD.mono ?_
        rintro e w2 ⟨rfl, hb2⟩
        have HB3 : Hid (Below wr.heap.size wr w2) := below_more HB2.out hb2 HB2.out.size
        have HHS2 : Hid (HeadsAt w w2 g c H u5) := HHS.out.below HB3.out
        have HBW2 : Hid (Below w.heap.size w w2) := below_more HB.out HB3.out HB.out.size
        have HD2 : Hid (OwnK w2 w.heap.size u5 (keysOf (oldH adv) (H.take (i + 1)))) := by
          show OwnK _ _ _ _
          rw [HKY.out, hpp]
          simp only [Bool.false_eq_true, if_false, List.append_nil]
          exact own_below HD.out HB3.out
        clear c0 c1 c2 c3 c4 c5 c6 CD hb2 HKY
        go_wp2
        go_roundw
        case rel => exact ⟨i + 1, by omega, by go_num, HD2, HHS2, HBW2⟩
        case measure => simp [intOf]; omega
      · rw [hpp] at CD
        go_wp2_with fail
        refine CD.mono ?_
        rintro e w4 ⟨rfl, hb4⟩
        have HB3 : Hid (Below wr.heap.size wr w4) := below_more HB2.out hb4 HB2.out.size
        have HHS4 : Hid (HeadsAt w w4 g c H u5) := HHS.out.below HB3.out
        have HT4 : Hid (Below w.heap.size w w4) := below_more HB.out HB3.out HB.out.size
        have HD4 : Hid (OwnK w4 w.heap.size u5 (keysOf (oldH adv) (H.take i))) := own_below HD.out HB3.out
        have HBX5 : Hid (Var w4 wr.heap.size (hdC h)) := HBX.out.below hb4 HBX.out.lt
        clear c0 c1 c2 c3 c4 c5 c6 CD hb4 HBX HHS HB HB2 HB3 HD
        have c0 := HBX5.out.cell 0 rfl
        have c1 := HBX5.out.cell 1 rfl
        have c2 := HBX5.out.cell 2 rfl
        have c3 := HBX5.out.cell 3 rfl
        have c4 := HBX5.out.cell 4 rfl
        have c5 := HBX5.out.cell 5 rfl
        have c6 := HBX5.out.cell 6 rfl
        have CK := akey_any h w4
        go_wp2_with fail
        refine CK.mono ?_
        rintro e w5 ⟨rfl, hb5⟩
        obtain ⟨k, hk⟩ : ∃ k, keyZ h = k := ⟨_, rfl⟩
        have HKQ : Hid (keyZ h = k) := hk
        have HB5 : Hid (Below w4.heap.size w4 w5) := hb5
        rw [show keyA h = keyV (keyZ h) from rfl, hk]
        clear hb5 CK c0 c1 c2 c3 c4 c5 c6 hk
        have HB6 : Hid (Below w4.heap.size w4 (w5.alloc (.cells #[.int .i64 k.kind, .int .i64 k.id, .int .i64 k.adv] 25))) := HB5.out.alloc HB5.out.size _
        have HD6 : Hid (OwnK (w5.alloc (.cells #[.int .i64 k.kind, .int .i64 k.id, .int .i64 k.adv] 25)) w.heap.size u5 (keysOf (oldH adv) (H.take i))) := own_below HD4.out HB6.out
        have HHS6 : Hid (HeadsAt w (w5.alloc (.cells #[.int .i64 k.kind, .int .i64 k.id, .int .i64 k.adv] 25)) g c H u5) := HHS4.out.below HB6.out
        have HT6 : Hid (Below w.heap.size w (w5.alloc (.cells #[.int .i64 k.kind, .int .i64 k.id, .int .i64 k.adv] 25))) := below_more HT4.out HB6.out HT4.out.size
        have HL6 : Hid (Lies (w5.alloc (.cells #[.int .i64 k.kind, .int .i64 k.id, .int .i64 k.adv] 25)) (some ⟨w5.heap.size, 0, none⟩) (keyC k)) := lies_new w5 (keyC k) _
        have hkl := HKL.out
        have hsz := HT6.out.size
        clear HHS4 HT4 HD4 HBX5 HB5 HB6
        go_wp2_with (at_builtin; go_must (refine wpList_append_hence (w5.alloc (.cells #[.int .i64 k.kind, .int .i64 k.id, .int .i64 k.adv] 25)) rfl _ _ 47 rfl w.heap.size 25 ki _ 3 24 Try.underlying47 HI.out H0.out H1.out H2.out rfl (by decide) u5 _ _ rfl HD6.out _ 1 _ (keyC k) rfl rfl HL6.out.at (fun u hu => by simp [keyC] at hu; rcases hu with rfl | rfl | rfl <;> rfl) (by unfold maxLen; omega) (by omega) hsz ?_))
        intro v' w6 ho6 hg6 hh6
        have HHS7 : Hid (HeadsAt w w6 g c H v') := HHS6.out.grown hg6 hh6
        have HT7 : Hid (Below w.heap.size w w6) := HT6.out.trans ((Below.refl _ _).grown hg6 hsz (fun k hk => (World.ownsRow.lt HD6.out k hk).1))
        have HD7 : Hid (OwnK w6 w.heap.size v' (keysOf (oldH adv) (H.take (i + 1)))) := by
          show OwnK _ _ _ _
          rw [HKY.out, hpp, HKQ.out]
          simp only [if_true]
          exact ownK_snoc ho6
        clear HHS6 HT6 HD6 HL6 ho6 hg6 hh6 HKY
        go_wp2
        go_roundw
        case rel => exact ⟨i + 1, by omega, by go_num, HD7, HHS7, HT7⟩
        case measure => simp [intOf]; omega
    · have hie : i = H.length := by omega
      subst hie
      have HEND : Hid (KeysEnd w (oldH adv) L (.returned u5) wr) := by
        have h1 := HD.out
        rw [List.take_length, ← HHE.out] at h1
        exact ⟨u5, rfl, h1, HB.out⟩
      have hnl : ¬ ((H.length : Int) < (H.length : Int)) := by omega
      clear HD HHS HB
      go_wp2
      go_ret
      exact HEND.out
end Go.Proofs.Ytbogphhbjmapgaa
