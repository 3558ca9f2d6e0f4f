/- The advertisement at a place: Get. -/
import Derived.Test.YtoanjhccbmifmaaDoorS5GC
namespace Go.Proofs.YtoanjhccbmifmaaDoor
open Go.RowKit
set_option linter.unusedVariables false

/-- The advertisement that the bytes may be of. -/
def getL (zs : List Int) : LsaZ := bodyOf (readHZ (getB zs)) ((getB zs).drop 20)
def kindOkB (zs : List Int) : Bool := ((getL zs).head.kind == 1) || ((getL zs).head.kind == 2) || ((getL zs).head.kind == 6)
def shortB (zs : List Int) : Bool := (((getL zs).head.kind == 1) || ((getL zs).head.kind == 2)) && decide (((getB zs).drop 20).length < 4)
/-- The error that Get tells of bytes. -/
def getE (zs : List Int) : Int :=
  if firstK zs = 0 then
    if kindOkB zs = true then
      if shortB zs = true then 3
      else if rightLsaB (getL zs) = true ∧ layZ (getL zs) = getB zs then
        if (sealH (getL zs)).sum = (getL zs).head.sum then 0 else 4
      else 3
    else 5
  else (firstK zs : Int) + 1
theorem bodyOf_head (h : HeadZ) (zs : List Int) : (bodyOf h zs).head = h := by unfold bodyOf; split <;> (try split) <;> rfl
theorem getL_head (zs : List Int) : (getL zs).head = readHZ (getB zs) := bodyOf_head _ _
theorem num2At_bd {zs : List Int} (h : AreBytes zs) (k : Nat) : 0 ≤ num2At zs k ∧ num2At zs k ≤ 65535 := by
  unfold num2At; have := areBytes_getD h k; have := areBytes_getD h (k + 1); omega
theorem getD_take (zs : List Int) (m i : Nat) (h : i < m) : (zs.take m).getD i 0 = zs.getD i 0 := by
  simp [List.getD_eq_getElem?_getD, h]
theorem lenAt_take (zs : List Int) (m : Nat) (h : 20 ≤ m) : lenAt (zs.take m) = lenAt zs := by
  unfold lenAt num2At; rw [getD_take _ _ _ (by omega), getD_take _ _ _ (by omega)]
theorem getL_len {zs : List Int} (h : firstK zs = 0) : (getL zs).head.len = lenAt zs := by
  rw [getL_head, read_len]; unfold getB; exact lenAt_take _ _ (by have := firstK_zero h; omega)
theorem getB_le {zs : List Int} (h : AreBytes zs) : (getB zs).length ≤ 65535 := by
  unfold getB; rw [List.length_take]; have : 0 ≤ lenAt zs ∧ lenAt zs ≤ 65535 := num2At_bd h 18; omega
theorem body_mid (h : HeadZ) (zs : List Int) (hl : zs.length ≤ 1000000) : Mid (bodyOf h zs) := by
  have a : ∀ m : Nat, (zs.drop 4).length / m ≤ 1000000 := fun m => by have := Nat.div_le_self (zs.drop 4).length m; rw [List.length_drop] at *; omega
  have b : ∀ m : Nat, zs.length / m ≤ 1000000 := fun m => by have := Nat.div_le_self zs.length m; omega
  unfold bodyOf
  split
  · exact ⟨by rw [readL_length]; exact a _, by simp, by simp⟩
  · split
    · exact ⟨by simp, by rw [readL_length]; exact a _, by simp⟩
    · exact ⟨by simp, by simp, by rw [readL_length]; exact b _⟩
theorem getL_mid {zs : List Int} (h : AreBytes zs) : Mid (getL zs) := body_mid _ _ (by rw [List.length_drop]; have := getB_le h; omega)
/-- How read ends: E is the error's number. -/
def ReadEnd (w : World) (p : Nat → Addr) (zs : List Int) (e : Ending) (w' : World) : Prop :=
  (getE zs = 0 ∧ BodyOk w (getL zs) e w') ∨ ∃ k : Nat, 1 ≤ k ∧ k < 5 ∧ getE zs = (k : Int) + 1 ∧ ReadBad w p k e w'
theorem read_any (a : Option Addr) (n cap : Nat) (zs : List Int) (p : Nat → Addr) (w : World) (hn : n = zs.length) (hE : EnvAt w p) (hS : Slice w a cap zs) :
    Calls Tryd.prog 46 #[.slice a n cap] w (ReadEnd w p zs) := by
  have hbd := getL_mid hS.bd
  have hB := getB_le hS.bd
  have hdl : ((getB zs).drop 20).length ≤ 1000000 := by rw [List.length_drop]; omega
  have hH := getL_head zs
  unfold ReadEnd
  rcases hk : firstK zs with _ | k
  · by_cases h1 : (readHZ (getB zs)).kind = 1
    · have hko : kindOkB zs = true := by unfold kindOkB; rw [hH]; simp [h1]
      by_cases h4 : ((getB zs).drop 20).length < 4
      · have hE3 : getE zs = 3 := by unfold getE; rw [if_pos hk, if_pos hko, if_pos (by unfold shortB; rw [hH]; simp [h1, -List.length_drop]; exact h4)]
        refine (read_body a n cap zs p w hn hE hS hk 2 (fun ad c W he hs => readBody_short1 _ ad _ c _ p W rfl he hs h1 h4)).mono fun e w' h => .inr ⟨2, by omega, by omega, hE3, h⟩
      · have hsh : shortB zs = false := by unfold shortB; rw [decide_eq_false h4]; simp
        have hb := fun ad c W he hs => readBody_1 (readHZ (getB zs)) ad _ c ((getB zs).drop 20) p W rfl he hs h1 (by omega) hdl
        cases hr : rightLsaB (getL zs) with
        | false =>
          have hE3 : getE zs = 3 := by unfold getE; rw [if_pos hk, if_pos hko, if_neg (by rw [hsh]; simp), if_neg (by rw [hr]; simp)]
          exact (read_right a n cap zs p w hn hE hS hk (getL zs) hbd hb hr).mono fun e w' h => .inr ⟨2, by omega, by omega, hE3, h⟩
        | true =>
          by_cases hq : layZ (getL zs) = getB zs
          · have hlen : ((sealH (getL zs)).len == (getL zs).head.len) = true := by
              have e1 : (sealH (getL zs)).len = ((layZ (getL zs)).length : Int) := rfl
              rw [beq_iff_eq, e1, hq, getL_len hk, getB_length hk]
              have := firstK_zero hk; omega
            by_cases hs : (sealH (getL zs)).sum = (getL zs).head.sum
            · have hE0 : getE zs = 0 := by unfold getE; rw [if_pos hk, if_pos hko, if_neg (by rw [hsh]; simp), if_pos ⟨hr, hq⟩, if_pos hs]
              exact (read_good a n cap zs p w hn hE hS hk (getL zs) hbd hb hr (decide_eq_true hq) (beq_iff_eq.2 hs) hlen).mono fun e w' h => .inl ⟨hE0, h⟩
            · have hE4 : getE zs = 4 := by unfold getE; rw [if_pos hk, if_pos hko, if_neg (by rw [hsh]; simp), if_pos ⟨hr, hq⟩, if_neg hs]
              exact (read_seal a n cap zs p w hn hE hS hk (getL zs) hbd hb hr (decide_eq_true hq) (by simpa using hs) hlen).mono fun e w' h => .inr ⟨3, by omega, by omega, hE4, h⟩
          · have hE3 : getE zs = 3 := by unfold getE; rw [if_pos hk, if_pos hko, if_neg (by rw [hsh]; simp), if_neg (by simp [hq])]
            exact (read_bytes a n cap zs p w hn hE hS hk (getL zs) hbd hb hr (decide_eq_false hq)).mono fun e w' h => .inr ⟨2, by omega, by omega, hE3, h⟩
    by_cases h2 : (readHZ (getB zs)).kind = 2
    · have hko : kindOkB zs = true := by unfold kindOkB; rw [hH]; simp [h2]
      by_cases h4 : ((getB zs).drop 20).length < 4
      · have hE3 : getE zs = 3 := by unfold getE; rw [if_pos hk, if_pos hko, if_pos (by unfold shortB; rw [hH]; simp [h2, -List.length_drop]; exact h4)]
        refine (read_body a n cap zs p w hn hE hS hk 2 (fun ad c W he hs => readBody_short2 _ ad _ c _ p W rfl he hs h2 h4)).mono fun e w' h => .inr ⟨2, by omega, by omega, hE3, h⟩
      · have hsh : shortB zs = false := by unfold shortB; rw [decide_eq_false h4]; simp
        have hb := fun ad c W he hs => readBody_2 (readHZ (getB zs)) ad _ c ((getB zs).drop 20) p W rfl he hs h2 (by omega) hdl
        cases hr : rightLsaB (getL zs) with
        | false =>
          have hE3 : getE zs = 3 := by unfold getE; rw [if_pos hk, if_pos hko, if_neg (by rw [hsh]; simp), if_neg (by rw [hr]; simp)]
          exact (read_right a n cap zs p w hn hE hS hk (getL zs) hbd hb hr).mono fun e w' h => .inr ⟨2, by omega, by omega, hE3, h⟩
        | true =>
          by_cases hq : layZ (getL zs) = getB zs
          · have hlen : ((sealH (getL zs)).len == (getL zs).head.len) = true := by
              have e1 : (sealH (getL zs)).len = ((layZ (getL zs)).length : Int) := rfl
              rw [beq_iff_eq, e1, hq, getL_len hk, getB_length hk]
              have := firstK_zero hk; omega
            by_cases hs : (sealH (getL zs)).sum = (getL zs).head.sum
            · have hE0 : getE zs = 0 := by unfold getE; rw [if_pos hk, if_pos hko, if_neg (by rw [hsh]; simp), if_pos ⟨hr, hq⟩, if_pos hs]
              exact (read_good a n cap zs p w hn hE hS hk (getL zs) hbd hb hr (decide_eq_true hq) (beq_iff_eq.2 hs) hlen).mono fun e w' h => .inl ⟨hE0, h⟩
            · have hE4 : getE zs = 4 := by unfold getE; rw [if_pos hk, if_pos hko, if_neg (by rw [hsh]; simp), if_pos ⟨hr, hq⟩, if_neg hs]
              exact (read_seal a n cap zs p w hn hE hS hk (getL zs) hbd hb hr (decide_eq_true hq) (by simpa using hs) hlen).mono fun e w' h => .inr ⟨3, by omega, by omega, hE4, h⟩
          · have hE3 : getE zs = 3 := by unfold getE; rw [if_pos hk, if_pos hko, if_neg (by rw [hsh]; simp), if_neg (by simp [hq])]
            exact (read_bytes a n cap zs p w hn hE hS hk (getL zs) hbd hb hr (decide_eq_false hq)).mono fun e w' h => .inr ⟨2, by omega, by omega, hE3, h⟩
    by_cases h6 : (readHZ (getB zs)).kind = 6
    · have hko : kindOkB zs = true := by unfold kindOkB; rw [hH]; simp [h6]
      have hsh : shortB zs = false := by unfold shortB; rw [hH]; simp [h6]
      have hb := fun ad c W he hs => readBody_6 (readHZ (getB zs)) ad _ c ((getB zs).drop 20) p W rfl he hs h6 hdl
      cases hr : rightLsaB (getL zs) with
      | false =>
        have hE3 : getE zs = 3 := by unfold getE; rw [if_pos hk, if_pos hko, if_neg (by rw [hsh]; simp), if_neg (by rw [hr]; simp)]
        exact (read_right a n cap zs p w hn hE hS hk (getL zs) hbd hb hr).mono fun e w' h => .inr ⟨2, by omega, by omega, hE3, h⟩
      | true =>
        by_cases hq : layZ (getL zs) = getB zs
        · have hlen : ((sealH (getL zs)).len == (getL zs).head.len) = true := by
            have e1 : (sealH (getL zs)).len = ((layZ (getL zs)).length : Int) := rfl
            rw [beq_iff_eq, e1, hq, getL_len hk, getB_length hk]
            have := firstK_zero hk; omega
          by_cases hs : (sealH (getL zs)).sum = (getL zs).head.sum
          · have hE0 : getE zs = 0 := by unfold getE; rw [if_pos hk, if_pos hko, if_neg (by rw [hsh]; simp), if_pos ⟨hr, hq⟩, if_pos hs]
            exact (read_good a n cap zs p w hn hE hS hk (getL zs) hbd hb hr (decide_eq_true hq) (beq_iff_eq.2 hs) hlen).mono fun e w' h => .inl ⟨hE0, h⟩
          · have hE4 : getE zs = 4 := by unfold getE; rw [if_pos hk, if_pos hko, if_neg (by rw [hsh]; simp), if_pos ⟨hr, hq⟩, if_neg hs]
            exact (read_seal a n cap zs p w hn hE hS hk (getL zs) hbd hb hr (decide_eq_true hq) (by simpa using hs) hlen).mono fun e w' h => .inr ⟨3, by omega, by omega, hE4, h⟩
        · have hE3 : getE zs = 3 := by unfold getE; rw [if_pos hk, if_pos hko, if_neg (by rw [hsh]; simp), if_neg (by simp [hq])]
          exact (read_bytes a n cap zs p w hn hE hS hk (getL zs) hbd hb hr (decide_eq_false hq)).mono fun e w' h => .inr ⟨2, by omega, by omega, hE3, h⟩
    · have hE5 : getE zs = 5 := by unfold getE; rw [if_pos hk, if_neg (by unfold kindOkB; rw [hH]; simp [h1, h2, h6])]
      refine (read_body a n cap zs p w hn hE hS hk 4 (fun ad c W he hs => readBody_kind _ ad _ c _ p W rfl he hs h1 h2 h6)).mono fun e w' h => .inr ⟨4, by omega, by omega, hE5, h⟩
  · have hEk : getE zs = ((k + 1 : Nat) : Int) + 1 := by unfold getE; rw [if_neg (by rw [hk]; omega), hk]
    have hk3 : k + 1 < 5 := by rw [← hk]; unfold firstK; (repeat' split) <;> omega
    exact (read_first a n cap zs p w hn hE hS k hk).mono fun e w' h => .inr ⟨k + 1, by omega, hk3, hEk, h⟩
theorem number_any {w : World} {p : Nat → Addr} (h : EnvAt w p) (s : ByteArray) (k : Nat) (hk : k < 5) :
    Calls Tryd.prog 30 #[faultV s (p k)] w fun e w' => e = .returned (.int .i64 ((k : Int) + 1)) ∧ Below w.heap.size w w' := by
  match k, hk with
  | 0, _ => exact number_0 h s
  | 1, _ => exact number_1 h s
  | 2, _ => exact number_2 h s
  | 3, _ => exact number_3 h s
  | 4, _ => exact number_4 h s
end Go.Proofs.YtoanjhccbmifmaaDoor
/- Get. -/
namespace Go.Proofs.YtoanjhccbmifmaaDoor
open Go.RowKit
set_option linter.unusedVariables false

/-- How Get ends, of the bytes ys from the place q on. -/
def GetEnd (w : World) (q : Int) (ys : List Int) (e : Ending) (w' : World) : Prop :=
  Below w.heap.size w w' ∧ ((getE ys = 0 ∧ ∃ s', e = .returned (.tuple #[.agg (lsaA s' (getL ys)), .int .i64 (q + (getL ys).head.len), .int .i64 0]) ∧ Held w' s' (getL ys) ∧ Nils s')
    ∨ (getE ys ≠ 0 ∧ e = .returned (.tuple #[.agg #[.int .i64 0, .int .i64 0, .int .i64 0, .int .i64 0, .int .i64 0, .int .i64 0, .int .i64 0, .int .i64 0, .slice none 0 0, .int .i64 0, .slice none 0 0, .slice none 0 0], .int .i64 0, .int .i64 (getE ys)])))
theorem getE_first {ys : List Int} (h : getE ys = 0) : firstK ys = 0 := by
  rcases hk : firstK ys with _ | k
  · rfl
  · exfalso; unfold getE at h; rw [if_neg (by rw [hk]; omega), hk] at h; omega
theorem from_place {zs : List Int} {q : Int} (h : 20 ≤ (fromZ zs q).length) : 0 ≤ q ∧ q ≤ zs.length := by
  unfold fromZ at h
  split at h
  · simp at h
  · omega
theorem first_long {ys : List Int} (h : firstK ys = 0) : 20 ≤ ys.length := by
  have := firstK_zero h; omega
set_option maxHeartbeats 3200000 in
set_option maxRecDepth 20000 in
theorem get_any (a : Option Addr) (n cap : Nat) (zs : List Int) (q : Int) (w : World) (hn : n = zs.length) (hE : Env w) (hS : Slice w a cap zs) :
    Calls Tryd.prog 23 #[.slice a n cap, .int .i64 q] w (GetEnd w q (fromZ zs q)) := by
  obtain ⟨p, hp⟩ := hE
  have HV : Hid (Var (w.alloc (.cells #[.int .i64 0, .int .i64 0, .int .i64 0, .int .i64 0, .int .i64 0, .int .i64 0, .int .i64 0, .int .i64 0, .slice none 0 0, .int .i64 0, .slice none 0 0, .slice none 0 0] 28)) w.heap.size [.int .i64 0, .int .i64 0, .int .i64 0, .int .i64 0, .int .i64 0, .int .i64 0, .int .i64 0, .int .i64 0, .slice none 0 0, .int .i64 0, .slice none 0 0, .slice none 0 0]) := var_new w [.int .i64 0, .int .i64 0, .int .i64 0, .int .i64 0, .int .i64 0, .int .i64 0, .int .i64 0, .int .i64 0, .slice none 0 0, .int .i64 0, .slice none 0 0, .slice none 0 0] _
  have HB : Hid (Below w.heap.size w (w.alloc (.cells #[.int .i64 0, .int .i64 0, .int .i64 0, .int .i64 0, .int .i64 0, .int .i64 0, .int .i64 0, .int .i64 0, .slice none 0 0, .int .i64 0, .slice none 0 0, .slice none 0 0] 28))) := below_new' _ _
  have HE : Hid (EnvAt w p) := hp
  have HS : Hid (Slice w a cap zs) := hS
  have hfr := fun W hW => from_any a n cap zs q W hn hW
  have HPL : Hid (firstK (fromZ zs q) = 0 → 0 ≤ q ∧ q ≤ 70368744177664) := fun h => by
    have h1 := from_place (first_long h); have := hS.len; omega
  have HBD : Hid (AreBytes (fromZ zs q)) := fromZ_bd hS.bd q
  clear hn hS hp
  generalize fromZ zs q = ys at *
  go_enter Tryd.func23, Tryd.ntmps23
  go_upto_region 1 with fail
  generalize w.alloc (.cells #[.int .i64 0, .int .i64 0, .int .i64 0, .int .i64 0, .int .i64 0, .int .i64 0, .int .i64 0, .int .i64 0, .slice none 0 0, .int .i64 0, .slice none 0 0, .slice none 0 0] 28) = W at *
  go_wp2_with fail
  refine (hfr _ (HS.out.below HB.out)).mono ?_
  rintro e w1 ⟨⟨a1, c1, rfl, hs1⟩, hq⟩
  subst w1
  have HS1 : Hid (Slice W a1 c1 ys) := hs1
  obtain ⟨m, hm⟩ : ∃ m, m = ys.length := ⟨_, rfl⟩
  have HM : Hid (m = ys.length) := hm
  rw [← hm]
  clear hfr HS hs1 hm
  go_wp2_with fail
  refine (read_any a1 m c1 ys p W HM.out (HE.out.below HB.out (Nat.le_refl _)) HS1.out).mono ?_
  rintro e w2 (⟨hE0, s1, rfl, hh, hnl, hf, hb⟩ | ⟨k, hk1, hk5, hEk, str, rfl, hb⟩)
  · have hlz : Hid (W.heap.size = W.heap.size) := rfl
    have HLT : Hid (w.heap.size < W.heap.size) := HV.out.lt
    replace HV : Hid (Var w2 w.heap.size [.int .i64 0, .int .i64 0, .int .i64 0, .int .i64 0, .int .i64 0, .int .i64 0, .int .i64 0, .int .i64 0, .slice none 0 0, .int .i64 0, .slice none 0 0, .slice none 0 0]) := HV.out.below hb HV.out.lt
    replace HB : Hid (Below w.heap.size w w2) := below_more HB.out hb HB.out.size
    have HH : Hid (Held w2 s1 (getL ys)) := hh
    have HF : Hid (FarS W.heap.size s1) := hf
    have HN : Hid (Nils s1) := hnl
    have hfk := getE_first hE0
    have hpl := HPL.out hfk
    have HE0 : Hid (getE ys = 0) := hE0
    have hlb : 0 ≤ (getL ys).head.len ∧ (getL ys).head.len ≤ 65535 := by rw [getL_len hfk]; exact num2At_bd HBD.out 18
    clear hh hf hnl hb hE0 hfk HPL HS1 HM HBD hlz
    generalize hgl : getL ys = l at *
    have HGL : Hid (getL ys = l) := hgl
    clear hgl
    have K3 : Hid (Var ((((((((((((w2.setCell ⟨w.heap.size, 0, none⟩ (.int .i64 l.head.age)).setCell ⟨w.heap.size, 1, none⟩ (.int .i64 l.head.kind)).setCell ⟨w.heap.size, 2, none⟩ (.int .i64 l.head.id)).setCell ⟨w.heap.size, 3, none⟩ (.int .i64 l.head.adv)).setCell ⟨w.heap.size, 4, none⟩ (.int .i64 l.head.seq)).setCell ⟨w.heap.size, 5, none⟩ (.int .i64 l.head.sum)).setCell ⟨w.heap.size, 6, none⟩ (.int .i64 l.head.len)).setCell ⟨w.heap.size, 7, none⟩ (.int .i64 l.flags)).setCell ⟨w.heap.size, 8, none⟩ (.slice s1.la l.links.length s1.lc)).setCell ⟨w.heap.size, 9, none⟩ (.int .i64 l.bits)).setCell ⟨w.heap.size, 10, none⟩ (.slice s1.ra l.routers.length s1.rc)).setCell ⟨w.heap.size, 11, none⟩ (.slice s1.va l.verts.length s1.vc)) w.heap.size [.int .i64 l.head.age, .int .i64 l.head.kind, .int .i64 l.head.id, .int .i64 l.head.adv, .int .i64 l.head.seq, .int .i64 l.head.sum, .int .i64 l.head.len, .int .i64 l.flags, .slice s1.la l.links.length s1.lc, .int .i64 l.bits, .slice s1.ra l.routers.length s1.rc, .slice s1.va l.verts.length s1.vc]) := HV.out.put12 (.int .i64 l.head.age) (.int .i64 l.head.kind) (.int .i64 l.head.id) (.int .i64 l.head.adv) (.int .i64 l.head.seq) (.int .i64 l.head.sum) (.int .i64 l.head.len) (.int .i64 l.flags) (.slice s1.la l.links.length s1.lc) (.int .i64 l.bits) (.slice s1.ra l.routers.length s1.rc) (.slice s1.va l.verts.length s1.vc)
    have K2 : Hid (Below w.heap.size w ((((((((((((w2.setCell ⟨w.heap.size, 0, none⟩ (.int .i64 l.head.age)).setCell ⟨w.heap.size, 1, none⟩ (.int .i64 l.head.kind)).setCell ⟨w.heap.size, 2, none⟩ (.int .i64 l.head.id)).setCell ⟨w.heap.size, 3, none⟩ (.int .i64 l.head.adv)).setCell ⟨w.heap.size, 4, none⟩ (.int .i64 l.head.seq)).setCell ⟨w.heap.size, 5, none⟩ (.int .i64 l.head.sum)).setCell ⟨w.heap.size, 6, none⟩ (.int .i64 l.head.len)).setCell ⟨w.heap.size, 7, none⟩ (.int .i64 l.flags)).setCell ⟨w.heap.size, 8, none⟩ (.slice s1.la l.links.length s1.lc)).setCell ⟨w.heap.size, 9, none⟩ (.int .i64 l.bits)).setCell ⟨w.heap.size, 10, none⟩ (.slice s1.ra l.routers.length s1.rc)).setCell ⟨w.heap.size, 11, none⟩ (.slice s1.va l.verts.length s1.vc))) := below_put12 HB.out (Nat.le_refl _) (.int .i64 l.head.age) (.int .i64 l.head.kind) (.int .i64 l.head.id) (.int .i64 l.head.adv) (.int .i64 l.head.seq) (.int .i64 l.head.sum) (.int .i64 l.head.len) (.int .i64 l.flags) (.slice s1.la l.links.length s1.lc) (.int .i64 l.bits) (.slice s1.ra l.routers.length s1.rc) (.slice s1.va l.verts.length s1.vc)
    have K4 : Hid (Held ((((((((((((w2.setCell ⟨w.heap.size, 0, none⟩ (.int .i64 l.head.age)).setCell ⟨w.heap.size, 1, none⟩ (.int .i64 l.head.kind)).setCell ⟨w.heap.size, 2, none⟩ (.int .i64 l.head.id)).setCell ⟨w.heap.size, 3, none⟩ (.int .i64 l.head.adv)).setCell ⟨w.heap.size, 4, none⟩ (.int .i64 l.head.seq)).setCell ⟨w.heap.size, 5, none⟩ (.int .i64 l.head.sum)).setCell ⟨w.heap.size, 6, none⟩ (.int .i64 l.head.len)).setCell ⟨w.heap.size, 7, none⟩ (.int .i64 l.flags)).setCell ⟨w.heap.size, 8, none⟩ (.slice s1.la l.links.length s1.lc)).setCell ⟨w.heap.size, 9, none⟩ (.int .i64 l.bits)).setCell ⟨w.heap.size, 10, none⟩ (.slice s1.ra l.routers.length s1.rc)).setCell ⟨w.heap.size, 11, none⟩ (.slice s1.va l.verts.length s1.vc)) s1 l) := ⟨HH.out.hl.put12 HF.out.1 HLT.out (.int .i64 l.head.age) (.int .i64 l.head.kind) (.int .i64 l.head.id) (.int .i64 l.head.adv) (.int .i64 l.head.seq) (.int .i64 l.head.sum) (.int .i64 l.head.len) (.int .i64 l.flags) (.slice s1.la l.links.length s1.lc) (.int .i64 l.bits) (.slice s1.ra l.routers.length s1.rc) (.slice s1.va l.verts.length s1.vc), HH.out.hr.put12 HF.out.2.1 HLT.out (.int .i64 l.head.age) (.int .i64 l.head.kind) (.int .i64 l.head.id) (.int .i64 l.head.adv) (.int .i64 l.head.seq) (.int .i64 l.head.sum) (.int .i64 l.head.len) (.int .i64 l.flags) (.slice s1.la l.links.length s1.lc) (.int .i64 l.bits) (.slice s1.ra l.routers.length s1.rc) (.slice s1.va l.verts.length s1.vc), HH.out.hv.put12 HF.out.2.2 HLT.out (.int .i64 l.head.age) (.int .i64 l.head.kind) (.int .i64 l.head.id) (.int .i64 l.head.adv) (.int .i64 l.head.seq) (.int .i64 l.head.sum) (.int .i64 l.head.len) (.int .i64 l.flags) (.slice s1.la l.links.length s1.lc) (.int .i64 l.bits) (.slice s1.ra l.routers.length s1.rc) (.slice s1.va l.verts.length s1.vc)⟩
    have r0 := HV.out.cell 0 rfl
    have r1 := HV.out.cell 1 rfl
    have r2 := HV.out.cell 2 rfl
    have r3 := HV.out.cell 3 rfl
    have r4 := HV.out.cell 4 rfl
    have r5 := HV.out.cell 5 rfl
    have r6 := HV.out.cell 6 rfl
    have r7 := HV.out.cell 7 rfl
    have r8 := HV.out.cell 8 rfl
    have r9 := HV.out.cell 9 rfl
    have r10 := HV.out.cell 10 rfl
    have r11 := HV.out.cell 11 rfl
    have q0 := HV.out.frozen 0
    have q1 := HV.out.frozen 1
    have q2 := HV.out.frozen 2
    have q3 := HV.out.frozen 3
    have q4 := HV.out.frozen 4
    have q5 := HV.out.frozen 5
    have q6 := HV.out.frozen 6
    have q7 := HV.out.frozen 7
    have q8 := HV.out.frozen 8
    have q9 := HV.out.frozen 9
    have q10 := HV.out.frozen 10
    have q11 := HV.out.frozen 11
    go_upto_region 2 with fail
    clear r0 r1 r2 r3 r4 r5 r6 r7 r8 r9 r10 r11 q0 q1 q2 q3 q4 q5 q6 q7 q8 q9 q10 q11 HV HB HH
    generalize ((((((((((((w2.setCell ⟨w.heap.size, 0, none⟩ (.int .i64 l.head.age)).setCell ⟨w.heap.size, 1, none⟩ (.int .i64 l.head.kind)).setCell ⟨w.heap.size, 2, none⟩ (.int .i64 l.head.id)).setCell ⟨w.heap.size, 3, none⟩ (.int .i64 l.head.adv)).setCell ⟨w.heap.size, 4, none⟩ (.int .i64 l.head.seq)).setCell ⟨w.heap.size, 5, none⟩ (.int .i64 l.head.sum)).setCell ⟨w.heap.size, 6, none⟩ (.int .i64 l.head.len)).setCell ⟨w.heap.size, 7, none⟩ (.int .i64 l.flags)).setCell ⟨w.heap.size, 8, none⟩ (.slice s1.la l.links.length s1.lc)).setCell ⟨w.heap.size, 9, none⟩ (.int .i64 l.bits)).setCell ⟨w.heap.size, 10, none⟩ (.slice s1.ra l.routers.length s1.rc)).setCell ⟨w.heap.size, 11, none⟩ (.slice s1.va l.verts.length s1.vc)) = V at *
    have K5 : Hid (Var ((((((((((((V.setCell ⟨w.heap.size, 0, none⟩ (.int .i64 l.head.age)).setCell ⟨w.heap.size, 1, none⟩ (.int .i64 l.head.kind)).setCell ⟨w.heap.size, 2, none⟩ (.int .i64 l.head.id)).setCell ⟨w.heap.size, 3, none⟩ (.int .i64 l.head.adv)).setCell ⟨w.heap.size, 4, none⟩ (.int .i64 l.head.seq)).setCell ⟨w.heap.size, 5, none⟩ (.int .i64 l.head.sum)).setCell ⟨w.heap.size, 6, none⟩ (.int .i64 l.head.len)).setCell ⟨w.heap.size, 7, none⟩ (.int .i64 l.flags)).setCell ⟨w.heap.size, 8, none⟩ (.slice s1.la l.links.length s1.lc)).setCell ⟨w.heap.size, 9, none⟩ (.int .i64 l.bits)).setCell ⟨w.heap.size, 10, none⟩ (.slice s1.ra l.routers.length s1.rc)).setCell ⟨w.heap.size, 11, none⟩ (.slice s1.va l.verts.length s1.vc)) w.heap.size [.int .i64 l.head.age, .int .i64 l.head.kind, .int .i64 l.head.id, .int .i64 l.head.adv, .int .i64 l.head.seq, .int .i64 l.head.sum, .int .i64 l.head.len, .int .i64 l.flags, .slice s1.la l.links.length s1.lc, .int .i64 l.bits, .slice s1.ra l.routers.length s1.rc, .slice s1.va l.verts.length s1.vc]) := K3.out.put12 (.int .i64 l.head.age) (.int .i64 l.head.kind) (.int .i64 l.head.id) (.int .i64 l.head.adv) (.int .i64 l.head.seq) (.int .i64 l.head.sum) (.int .i64 l.head.len) (.int .i64 l.flags) (.slice s1.la l.links.length s1.lc) (.int .i64 l.bits) (.slice s1.ra l.routers.length s1.rc) (.slice s1.va l.verts.length s1.vc)
    have K6 : Hid (Below w.heap.size w ((((((((((((V.setCell ⟨w.heap.size, 0, none⟩ (.int .i64 l.head.age)).setCell ⟨w.heap.size, 1, none⟩ (.int .i64 l.head.kind)).setCell ⟨w.heap.size, 2, none⟩ (.int .i64 l.head.id)).setCell ⟨w.heap.size, 3, none⟩ (.int .i64 l.head.adv)).setCell ⟨w.heap.size, 4, none⟩ (.int .i64 l.head.seq)).setCell ⟨w.heap.size, 5, none⟩ (.int .i64 l.head.sum)).setCell ⟨w.heap.size, 6, none⟩ (.int .i64 l.head.len)).setCell ⟨w.heap.size, 7, none⟩ (.int .i64 l.flags)).setCell ⟨w.heap.size, 8, none⟩ (.slice s1.la l.links.length s1.lc)).setCell ⟨w.heap.size, 9, none⟩ (.int .i64 l.bits)).setCell ⟨w.heap.size, 10, none⟩ (.slice s1.ra l.routers.length s1.rc)).setCell ⟨w.heap.size, 11, none⟩ (.slice s1.va l.verts.length s1.vc))) := below_put12 K2.out (Nat.le_refl _) (.int .i64 l.head.age) (.int .i64 l.head.kind) (.int .i64 l.head.id) (.int .i64 l.head.adv) (.int .i64 l.head.seq) (.int .i64 l.head.sum) (.int .i64 l.head.len) (.int .i64 l.flags) (.slice s1.la l.links.length s1.lc) (.int .i64 l.bits) (.slice s1.ra l.routers.length s1.rc) (.slice s1.va l.verts.length s1.vc)
    have K7 : Hid (Held ((((((((((((V.setCell ⟨w.heap.size, 0, none⟩ (.int .i64 l.head.age)).setCell ⟨w.heap.size, 1, none⟩ (.int .i64 l.head.kind)).setCell ⟨w.heap.size, 2, none⟩ (.int .i64 l.head.id)).setCell ⟨w.heap.size, 3, none⟩ (.int .i64 l.head.adv)).setCell ⟨w.heap.size, 4, none⟩ (.int .i64 l.head.seq)).setCell ⟨w.heap.size, 5, none⟩ (.int .i64 l.head.sum)).setCell ⟨w.heap.size, 6, none⟩ (.int .i64 l.head.len)).setCell ⟨w.heap.size, 7, none⟩ (.int .i64 l.flags)).setCell ⟨w.heap.size, 8, none⟩ (.slice s1.la l.links.length s1.lc)).setCell ⟨w.heap.size, 9, none⟩ (.int .i64 l.bits)).setCell ⟨w.heap.size, 10, none⟩ (.slice s1.ra l.routers.length s1.rc)).setCell ⟨w.heap.size, 11, none⟩ (.slice s1.va l.verts.length s1.vc)) s1 l) := ⟨K4.out.hl.put12 HF.out.1 HLT.out (.int .i64 l.head.age) (.int .i64 l.head.kind) (.int .i64 l.head.id) (.int .i64 l.head.adv) (.int .i64 l.head.seq) (.int .i64 l.head.sum) (.int .i64 l.head.len) (.int .i64 l.flags) (.slice s1.la l.links.length s1.lc) (.int .i64 l.bits) (.slice s1.ra l.routers.length s1.rc) (.slice s1.va l.verts.length s1.vc), K4.out.hr.put12 HF.out.2.1 HLT.out (.int .i64 l.head.age) (.int .i64 l.head.kind) (.int .i64 l.head.id) (.int .i64 l.head.adv) (.int .i64 l.head.seq) (.int .i64 l.head.sum) (.int .i64 l.head.len) (.int .i64 l.flags) (.slice s1.la l.links.length s1.lc) (.int .i64 l.bits) (.slice s1.ra l.routers.length s1.rc) (.slice s1.va l.verts.length s1.vc), K4.out.hv.put12 HF.out.2.2 HLT.out (.int .i64 l.head.age) (.int .i64 l.head.kind) (.int .i64 l.head.id) (.int .i64 l.head.adv) (.int .i64 l.head.seq) (.int .i64 l.head.sum) (.int .i64 l.head.len) (.int .i64 l.flags) (.slice s1.la l.links.length s1.lc) (.int .i64 l.bits) (.slice s1.ra l.routers.length s1.rc) (.slice s1.va l.verts.length s1.vc)⟩
    have r0 := K3.out.cell 0 rfl
    have r1 := K3.out.cell 1 rfl
    have r2 := K3.out.cell 2 rfl
    have r3 := K3.out.cell 3 rfl
    have r4 := K3.out.cell 4 rfl
    have r5 := K3.out.cell 5 rfl
    have r6 := K3.out.cell 6 rfl
    have r7 := K3.out.cell 7 rfl
    have r8 := K3.out.cell 8 rfl
    have r9 := K3.out.cell 9 rfl
    have r10 := K3.out.cell 10 rfl
    have r11 := K3.out.cell 11 rfl
    have q0 := K3.out.frozen 0
    have q1 := K3.out.frozen 1
    have q2 := K3.out.frozen 2
    have q3 := K3.out.frozen 3
    have q4 := K3.out.frozen 4
    have q5 := K3.out.frozen 5
    have q6 := K3.out.frozen 6
    have q7 := K3.out.frozen 7
    have q8 := K3.out.frozen 8
    have q9 := K3.out.frozen 9
    have q10 := K3.out.frozen 10
    have q11 := K3.out.frozen 11
    go_wp2
    clear r0 r1 r2 r3 r4 r5 r6 r7 r8 r9 r10 r11 q0 q1 q2 q3 q4 q5 q6 q7 q8 q9 q10 q11 K3 K2 K4
    generalize ((((((((((((V.setCell ⟨w.heap.size, 0, none⟩ (.int .i64 l.head.age)).setCell ⟨w.heap.size, 1, none⟩ (.int .i64 l.head.kind)).setCell ⟨w.heap.size, 2, none⟩ (.int .i64 l.head.id)).setCell ⟨w.heap.size, 3, none⟩ (.int .i64 l.head.adv)).setCell ⟨w.heap.size, 4, none⟩ (.int .i64 l.head.seq)).setCell ⟨w.heap.size, 5, none⟩ (.int .i64 l.head.sum)).setCell ⟨w.heap.size, 6, none⟩ (.int .i64 l.head.len)).setCell ⟨w.heap.size, 7, none⟩ (.int .i64 l.flags)).setCell ⟨w.heap.size, 8, none⟩ (.slice s1.la l.links.length s1.lc)).setCell ⟨w.heap.size, 9, none⟩ (.int .i64 l.bits)).setCell ⟨w.heap.size, 10, none⟩ (.slice s1.ra l.routers.length s1.rc)).setCell ⟨w.heap.size, 11, none⟩ (.slice s1.va l.verts.length s1.vc)) = V2 at *
    have c0 := K5.out.cell 0 rfl
    have c1 := K5.out.cell 1 rfl
    have c2 := K5.out.cell 2 rfl
    have c3 := K5.out.cell 3 rfl
    have c4 := K5.out.cell 4 rfl
    have c5 := K5.out.cell 5 rfl
    have c6 := K5.out.cell 6 rfl
    have c7 := K5.out.cell 7 rfl
    have c8 := K5.out.cell 8 rfl
    have c9 := K5.out.cell 9 rfl
    have c10 := K5.out.cell 10 rfl
    have c11 := K5.out.cell 11 rfl
    refine bodyPost_ret (by simp [results, Tryd.results23, go_sem, c0, c1, c2, c3, c4, c5, c6, c7, c8, c9, c10, c11]; try rfl) rfl ?_
    unfold GetEnd
    rw [HGL.out]
    exact ⟨K6.out, .inl ⟨HE0.out, s1, rfl, K7.out, HN.out⟩⟩
  · replace HV : Hid (Var w2 w.heap.size [.int .i64 0, .int .i64 0, .int .i64 0, .int .i64 0, .int .i64 0, .int .i64 0, .int .i64 0, .int .i64 0, .slice none 0 0, .int .i64 0, .slice none 0 0, .slice none 0 0]) := HV.out.below hb HV.out.lt
    replace HB : Hid (Below w.heap.size w w2) := below_more HB.out hb HB.out.size
    have HEK : Hid (getE ys = (k : Int) + 1) := hEk
    have HK5 : Hid (k < 5) := hk5
    clear hb hk5 hEk HPL HS1 HM HBD
    have K3 : Hid (Var ((((((((((((w2.setCell ⟨w.heap.size, 0, none⟩ (.int .i64 0)).setCell ⟨w.heap.size, 1, none⟩ (.int .i64 0)).setCell ⟨w.heap.size, 2, none⟩ (.int .i64 0)).setCell ⟨w.heap.size, 3, none⟩ (.int .i64 0)).setCell ⟨w.heap.size, 4, none⟩ (.int .i64 0)).setCell ⟨w.heap.size, 5, none⟩ (.int .i64 0)).setCell ⟨w.heap.size, 6, none⟩ (.int .i64 0)).setCell ⟨w.heap.size, 7, none⟩ (.int .i64 0)).setCell ⟨w.heap.size, 8, none⟩ (.slice none 0 0)).setCell ⟨w.heap.size, 9, none⟩ (.int .i64 0)).setCell ⟨w.heap.size, 10, none⟩ (.slice none 0 0)).setCell ⟨w.heap.size, 11, none⟩ (.slice none 0 0)) w.heap.size [.int .i64 0, .int .i64 0, .int .i64 0, .int .i64 0, .int .i64 0, .int .i64 0, .int .i64 0, .int .i64 0, .slice none 0 0, .int .i64 0, .slice none 0 0, .slice none 0 0]) := HV.out.put12 (.int .i64 0) (.int .i64 0) (.int .i64 0) (.int .i64 0) (.int .i64 0) (.int .i64 0) (.int .i64 0) (.int .i64 0) (.slice none 0 0) (.int .i64 0) (.slice none 0 0) (.slice none 0 0)
    have K2 : Hid (Below w.heap.size w ((((((((((((w2.setCell ⟨w.heap.size, 0, none⟩ (.int .i64 0)).setCell ⟨w.heap.size, 1, none⟩ (.int .i64 0)).setCell ⟨w.heap.size, 2, none⟩ (.int .i64 0)).setCell ⟨w.heap.size, 3, none⟩ (.int .i64 0)).setCell ⟨w.heap.size, 4, none⟩ (.int .i64 0)).setCell ⟨w.heap.size, 5, none⟩ (.int .i64 0)).setCell ⟨w.heap.size, 6, none⟩ (.int .i64 0)).setCell ⟨w.heap.size, 7, none⟩ (.int .i64 0)).setCell ⟨w.heap.size, 8, none⟩ (.slice none 0 0)).setCell ⟨w.heap.size, 9, none⟩ (.int .i64 0)).setCell ⟨w.heap.size, 10, none⟩ (.slice none 0 0)).setCell ⟨w.heap.size, 11, none⟩ (.slice none 0 0))) := below_put12 HB.out (Nat.le_refl _) (.int .i64 0) (.int .i64 0) (.int .i64 0) (.int .i64 0) (.int .i64 0) (.int .i64 0) (.int .i64 0) (.int .i64 0) (.slice none 0 0) (.int .i64 0) (.slice none 0 0) (.slice none 0 0)
    have r0 := HV.out.cell 0 rfl
    have r1 := HV.out.cell 1 rfl
    have r2 := HV.out.cell 2 rfl
    have r3 := HV.out.cell 3 rfl
    have r4 := HV.out.cell 4 rfl
    have r5 := HV.out.cell 5 rfl
    have r6 := HV.out.cell 6 rfl
    have r7 := HV.out.cell 7 rfl
    have r8 := HV.out.cell 8 rfl
    have r9 := HV.out.cell 9 rfl
    have r10 := HV.out.cell 10 rfl
    have r11 := HV.out.cell 11 rfl
    have q0 := HV.out.frozen 0
    have q1 := HV.out.frozen 1
    have q2 := HV.out.frozen 2
    have q3 := HV.out.frozen 3
    have q4 := HV.out.frozen 4
    have q5 := HV.out.frozen 5
    have q6 := HV.out.frozen 6
    have q7 := HV.out.frozen 7
    have q8 := HV.out.frozen 8
    have q9 := HV.out.frozen 9
    have q10 := HV.out.frozen 10
    have q11 := HV.out.frozen 11
    go_upto_region 3 with fail
    clear r0 r1 r2 r3 r4 r5 r6 r7 r8 r9 r10 r11 q0 q1 q2 q3 q4 q5 q6 q7 q8 q9 q10 q11 HV HB
    generalize ((((((((((((w2.setCell ⟨w.heap.size, 0, none⟩ (.int .i64 0)).setCell ⟨w.heap.size, 1, none⟩ (.int .i64 0)).setCell ⟨w.heap.size, 2, none⟩ (.int .i64 0)).setCell ⟨w.heap.size, 3, none⟩ (.int .i64 0)).setCell ⟨w.heap.size, 4, none⟩ (.int .i64 0)).setCell ⟨w.heap.size, 5, none⟩ (.int .i64 0)).setCell ⟨w.heap.size, 6, none⟩ (.int .i64 0)).setCell ⟨w.heap.size, 7, none⟩ (.int .i64 0)).setCell ⟨w.heap.size, 8, none⟩ (.slice none 0 0)).setCell ⟨w.heap.size, 9, none⟩ (.int .i64 0)).setCell ⟨w.heap.size, 10, none⟩ (.slice none 0 0)).setCell ⟨w.heap.size, 11, none⟩ (.slice none 0 0)) = V at *
    go_wp2_with fail
    refine (number_any (HE.out.below K2.out (Nat.le_refl _)) str k HK5.out).mono ?_
    rintro e w3 ⟨rfl, hb⟩
    replace K3 : Hid (Var w3 w.heap.size [.int .i64 0, .int .i64 0, .int .i64 0, .int .i64 0, .int .i64 0, .int .i64 0, .int .i64 0, .int .i64 0, .slice none 0 0, .int .i64 0, .slice none 0 0, .slice none 0 0]) := K3.out.below hb K3.out.lt
    replace K2 : Hid (Below w.heap.size w w3) := below_more K2.out hb K2.out.size
    clear hb
    have K5 : Hid (Var ((((((((((((w3.setCell ⟨w.heap.size, 0, none⟩ (.int .i64 0)).setCell ⟨w.heap.size, 1, none⟩ (.int .i64 0)).setCell ⟨w.heap.size, 2, none⟩ (.int .i64 0)).setCell ⟨w.heap.size, 3, none⟩ (.int .i64 0)).setCell ⟨w.heap.size, 4, none⟩ (.int .i64 0)).setCell ⟨w.heap.size, 5, none⟩ (.int .i64 0)).setCell ⟨w.heap.size, 6, none⟩ (.int .i64 0)).setCell ⟨w.heap.size, 7, none⟩ (.int .i64 0)).setCell ⟨w.heap.size, 8, none⟩ (.slice none 0 0)).setCell ⟨w.heap.size, 9, none⟩ (.int .i64 0)).setCell ⟨w.heap.size, 10, none⟩ (.slice none 0 0)).setCell ⟨w.heap.size, 11, none⟩ (.slice none 0 0)) w.heap.size [.int .i64 0, .int .i64 0, .int .i64 0, .int .i64 0, .int .i64 0, .int .i64 0, .int .i64 0, .int .i64 0, .slice none 0 0, .int .i64 0, .slice none 0 0, .slice none 0 0]) := K3.out.put12 (.int .i64 0) (.int .i64 0) (.int .i64 0) (.int .i64 0) (.int .i64 0) (.int .i64 0) (.int .i64 0) (.int .i64 0) (.slice none 0 0) (.int .i64 0) (.slice none 0 0) (.slice none 0 0)
    have K6 : Hid (Below w.heap.size w ((((((((((((w3.setCell ⟨w.heap.size, 0, none⟩ (.int .i64 0)).setCell ⟨w.heap.size, 1, none⟩ (.int .i64 0)).setCell ⟨w.heap.size, 2, none⟩ (.int .i64 0)).setCell ⟨w.heap.size, 3, none⟩ (.int .i64 0)).setCell ⟨w.heap.size, 4, none⟩ (.int .i64 0)).setCell ⟨w.heap.size, 5, none⟩ (.int .i64 0)).setCell ⟨w.heap.size, 6, none⟩ (.int .i64 0)).setCell ⟨w.heap.size, 7, none⟩ (.int .i64 0)).setCell ⟨w.heap.size, 8, none⟩ (.slice none 0 0)).setCell ⟨w.heap.size, 9, none⟩ (.int .i64 0)).setCell ⟨w.heap.size, 10, none⟩ (.slice none 0 0)).setCell ⟨w.heap.size, 11, none⟩ (.slice none 0 0))) := below_put12 K2.out (Nat.le_refl _) (.int .i64 0) (.int .i64 0) (.int .i64 0) (.int .i64 0) (.int .i64 0) (.int .i64 0) (.int .i64 0) (.int .i64 0) (.slice none 0 0) (.int .i64 0) (.slice none 0 0) (.slice none 0 0)
    have r0 := K3.out.cell 0 rfl
    have r1 := K3.out.cell 1 rfl
    have r2 := K3.out.cell 2 rfl
    have r3 := K3.out.cell 3 rfl
    have r4 := K3.out.cell 4 rfl
    have r5 := K3.out.cell 5 rfl
    have r6 := K3.out.cell 6 rfl
    have r7 := K3.out.cell 7 rfl
    have r8 := K3.out.cell 8 rfl
    have r9 := K3.out.cell 9 rfl
    have r10 := K3.out.cell 10 rfl
    have r11 := K3.out.cell 11 rfl
    have q0 := K3.out.frozen 0
    have q1 := K3.out.frozen 1
    have q2 := K3.out.frozen 2
    have q3 := K3.out.frozen 3
    have q4 := K3.out.frozen 4
    have q5 := K3.out.frozen 5
    have q6 := K3.out.frozen 6
    have q7 := K3.out.frozen 7
    have q8 := K3.out.frozen 8
    have q9 := K3.out.frozen 9
    have q10 := K3.out.frozen 10
    have q11 := K3.out.frozen 11
    go_wp2
    clear r0 r1 r2 r3 r4 r5 r6 r7 r8 r9 r10 r11 q0 q1 q2 q3 q4 q5 q6 q7 q8 q9 q10 q11 K3 K2
    generalize ((((((((((((w3.setCell ⟨w.heap.size, 0, none⟩ (.int .i64 0)).setCell ⟨w.heap.size, 1, none⟩ (.int .i64 0)).setCell ⟨w.heap.size, 2, none⟩ (.int .i64 0)).setCell ⟨w.heap.size, 3, none⟩ (.int .i64 0)).setCell ⟨w.heap.size, 4, none⟩ (.int .i64 0)).setCell ⟨w.heap.size, 5, none⟩ (.int .i64 0)).setCell ⟨w.heap.size, 6, none⟩ (.int .i64 0)).setCell ⟨w.heap.size, 7, none⟩ (.int .i64 0)).setCell ⟨w.heap.size, 8, none⟩ (.slice none 0 0)).setCell ⟨w.heap.size, 9, none⟩ (.int .i64 0)).setCell ⟨w.heap.size, 10, none⟩ (.slice none 0 0)).setCell ⟨w.heap.size, 11, none⟩ (.slice none 0 0)) = V2 at *
    have c0 := K5.out.cell 0 rfl
    have c1 := K5.out.cell 1 rfl
    have c2 := K5.out.cell 2 rfl
    have c3 := K5.out.cell 3 rfl
    have c4 := K5.out.cell 4 rfl
    have c5 := K5.out.cell 5 rfl
    have c6 := K5.out.cell 6 rfl
    have c7 := K5.out.cell 7 rfl
    have c8 := K5.out.cell 8 rfl
    have c9 := K5.out.cell 9 rfl
    have c10 := K5.out.cell 10 rfl
    have c11 := K5.out.cell 11 rfl
    refine bodyPost_ret (by simp [results, Tryd.results23, go_sem, c0, c1, c2, c3, c4, c5, c6, c7, c8, c9, c10, c11]; try rfl) rfl ?_
    exact ⟨K6.out, .inr ⟨by rw [HEK.out]; omega, by rw [HEK.out]⟩⟩
end Go.Proofs.YtoanjhccbmifmaaDoor
