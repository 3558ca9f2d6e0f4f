/- The advertisement at a place: Get. -/
import Derived.Test.YtoanjhccbmifmaaDoorS5G9
namespace Go.Proofs.YtoanjhccbmifmaaDoor
open Go.RowKit
set_option linter.unusedVariables false

/-- The advertisement that the bytes may be of. -/
def getL (zs : List Int) : LsaZ := bodyOf (readHZ (getB zs)) ((getB zs).drop 20)
def kindOkB (zs : List Int) : Bool := ((getL zs).head.kind == 1) || ((getL zs).head.kind == 2) || ((getL zs).head.kind == 6)
def shortB (zs : List Int) : Bool := (((getL zs).head.kind == 1) || ((getL zs).head.kind == 2)) && decide (((getB zs).drop 20).length < 4)
/-- The error that Get tells of bytes. -/
def getE (zs : List Int) : Int :=
  if firstK zs = 0 then
    if kindOkB zs = true then
      if shortB zs = true then 3
      else if rightLsaB (getL zs) = true ∧ layZ (getL zs) = getB zs then
        if (sealH (getL zs)).sum = (getL zs).head.sum then 0 else 4
      else 3
    else 5
  else (firstK zs : Int) + 1
theorem bodyOf_head (h : HeadZ) (zs : List Int) : (bodyOf h zs).head = h := by unfold bodyOf; split <;> (try split) <;> rfl
theorem getL_head (zs : List Int) : (getL zs).head = readHZ (getB zs) := bodyOf_head _ _
theorem num2At_bd {zs : List Int} (h : AreBytes zs) (k : Nat) : 0 ≤ num2At zs k ∧ num2At zs k ≤ 65535 := by
  unfold num2At; have := areBytes_getD h k; have := areBytes_getD h (k + 1); omega
theorem getD_take (zs : List Int) (m i : Nat) (h : i < m) : (zs.take m).getD i 0 = zs.getD i 0 := by
  simp [List.getD_eq_getElem?_getD, h]
theorem lenAt_take (zs : List Int) (m : Nat) (h : 20 ≤ m) : lenAt (zs.take m) = lenAt zs := by
  unfold lenAt num2At; rw [getD_take _ _ _ (by omega), getD_take _ _ _ (by omega)]
theorem getL_len {zs : List Int} (h : firstK zs = 0) : (getL zs).head.len = lenAt zs := by
  rw [getL_head, read_len]; unfold getB; exact lenAt_take _ _ (by have := firstK_zero h; omega)
theorem getB_le {zs : List Int} (h : AreBytes zs) : (getB zs).length ≤ 65535 := by
  unfold getB; rw [List.length_take]; have : 0 ≤ lenAt zs ∧ lenAt zs ≤ 65535 := num2At_bd h 18; omega
theorem body_mid (h : HeadZ) (zs : List Int) (hl : zs.length ≤ 1000000) : Mid (bodyOf h zs) := by
  have a : ∀ m : Nat, (zs.drop 4).length / m ≤ 1000000 := fun m => by have := Nat.div_le_self (zs.drop 4).length m; rw [List.length_drop] at *; omega
  have b : ∀ m : Nat, zs.length / m ≤ 1000000 := fun m => by have := Nat.div_le_self zs.length m; omega
  unfold bodyOf
  split
  · exact ⟨by rw [readL_length]; exact a _, by simp, by simp⟩
  · split
    · exact ⟨by simp, by rw [readL_length]; exact a _, by simp⟩
    · exact ⟨by simp, by simp, by rw [readL_length]; exact b _⟩
theorem getL_mid {zs : List Int} (h : AreBytes zs) : Mid (getL zs) := body_mid _ _ (by rw [List.length_drop]; have := getB_le h; omega)
/-- How read ends: E is the error's number. -/
def ReadEnd (w : World) (p : Nat → Addr) (zs : List Int) (e : Ending) (w' : World) : Prop :=
  (getE zs = 0 ∧ BodyOk w (getL zs) e w') ∨ ∃ k : Nat, 1 ≤ k ∧ k < 5 ∧ getE zs = (k : Int) + 1 ∧ ReadBad w p k e w'
theorem read_any (a : Option Addr) (n cap : Nat) (zs : List Int) (p : Nat → Addr) (w : World) (hn : n = zs.length) (hE : EnvAt w p) (hS : Slice w a cap zs) :
    Calls Tryd.prog 46 #[.slice a n cap] w (ReadEnd w p zs) := by
  have hbd := getL_mid hS.bd
  have hB := getB_le hS.bd
  have hdl : ((getB zs).drop 20).length ≤ 1000000 := by rw [List.length_drop]; omega
  have hH := getL_head zs
  unfold ReadEnd
  rcases hk : firstK zs with _ | k
  · by_cases h1 : (readHZ (getB zs)).kind = 1
    · have hko : kindOkB zs = true := by unfold kindOkB; rw [hH]; simp [h1]
      by_cases h4 : ((getB zs).drop 20).length < 4
      · have hE3 : getE zs = 3 := by unfold getE; rw [if_pos hk, if_pos hko, if_pos (by unfold shortB; rw [hH]; simp [h1, -List.length_drop]; exact h4)]
        refine (read_body a n cap zs p w hn hE hS hk 2 (fun ad c W he hs => readBody_short1 _ ad _ c _ p W rfl he hs h1 h4)).mono fun e w' h => .inr ⟨2, by omega, by omega, hE3, h⟩
      · have hsh : shortB zs = false := by unfold shortB; rw [decide_eq_false h4]; simp
        have hb := fun ad c W he hs => readBody_1 (readHZ (getB zs)) ad _ c ((getB zs).drop 20) p W rfl he hs h1 (by omega) hdl
        cases hr : rightLsaB (getL zs) with
        | false =>
          have hE3 : getE zs = 3 := by unfold getE; rw [if_pos hk, if_pos hko, if_neg (by rw [hsh]; simp), if_neg (by rw [hr]; simp)]
          exact (read_right a n cap zs p w hn hE hS hk (getL zs) hbd hb hr).mono fun e w' h => .inr ⟨2, by omega, by omega, hE3, h⟩
        | true =>
          by_cases hq : layZ (getL zs) = getB zs
          · have hlen : ((sealH (getL zs)).len == (getL zs).head.len) = true := by
              have e1 : (sealH (getL zs)).len = ((layZ (getL zs)).length : Int) := rfl
              rw [beq_iff_eq, e1, hq, getL_len hk, getB_length hk]
              have := firstK_zero hk; omega
            by_cases hs : (sealH (getL zs)).sum = (getL zs).head.sum
            · have hE0 : getE zs = 0 := by unfold getE; rw [if_pos hk, if_pos hko, if_neg (by rw [hsh]; simp), if_pos ⟨hr, hq⟩, if_pos hs]
              exact (read_good a n cap zs p w hn hE hS hk (getL zs) hbd hb hr (decide_eq_true hq) (beq_iff_eq.2 hs) hlen).mono fun e w' h => .inl ⟨hE0, h⟩
            · have hE4 : getE zs = 4 := by unfold getE; rw [if_pos hk, if_pos hko, if_neg (by rw [hsh]; simp), if_pos ⟨hr, hq⟩, if_neg hs]
              exact (read_seal a n cap zs p w hn hE hS hk (getL zs) hbd hb hr (decide_eq_true hq) (by simpa using hs) hlen).mono fun e w' h => .inr ⟨3, by omega, by omega, hE4, h⟩
          · have hE3 : getE zs = 3 := by unfold getE; rw [if_pos hk, if_pos hko, if_neg (by rw [hsh]; simp), if_neg (by simp [hq])]
            exact (read_bytes a n cap zs p w hn hE hS hk (getL zs) hbd hb hr (decide_eq_false hq)).mono fun e w' h => .inr ⟨2, by omega, by omega, hE3, h⟩
    by_cases h2 : (readHZ (getB zs)).kind = 2
    · have hko : kindOkB zs = true := by unfold kindOkB; rw [hH]; simp [h2]
      by_cases h4 : ((getB zs).drop 20).length < 4
      · have hE3 : getE zs = 3 := by unfold getE; rw [if_pos hk, if_pos hko, if_pos (by unfold shortB; rw [hH]; simp [h2, -List.length_drop]; exact h4)]
        refine (read_body a n cap zs p w hn hE hS hk 2 (fun ad c W he hs => readBody_short2 _ ad _ c _ p W rfl he hs h2 h4)).mono fun e w' h => .inr ⟨2, by omega, by omega, hE3, h⟩
      · have hsh : shortB zs = false := by unfold shortB; rw [decide_eq_false h4]; simp
        have hb := fun ad c W he hs => readBody_2 (readHZ (getB zs)) ad _ c ((getB zs).drop 20) p W rfl he hs h2 (by omega) hdl
        cases hr : rightLsaB (getL zs) with
        | false =>
          have hE3 : getE zs = 3 := by unfold getE; rw [if_pos hk, if_pos hko, if_neg (by rw [hsh]; simp), if_neg (by rw [hr]; simp)]
          exact (read_right a n cap zs p w hn hE hS hk (getL zs) hbd hb hr).mono fun e w' h => .inr ⟨2, by omega, by omega, hE3, h⟩
        | true =>
          by_cases hq : layZ (getL zs) = getB zs
          · have hlen : ((sealH (getL zs)).len == (getL zs).head.len) = true := by
              have e1 : (sealH (getL zs)).len = ((layZ (getL zs)).length : Int) := rfl
              rw [beq_iff_eq, e1, hq, getL_len hk, getB_length hk]
              have := firstK_zero hk; omega
            by_cases hs : (sealH (getL zs)).sum = (getL zs).head.sum
            · have hE0 : getE zs = 0 := by unfold getE; rw [if_pos hk, if_pos hko, if_neg (by rw [hsh]; simp), if_pos ⟨hr, hq⟩, if_pos hs]
              exact (read_good a n cap zs p w hn hE hS hk (getL zs) hbd hb hr (decide_eq_true hq) (beq_iff_eq.2 hs) hlen).mono fun e w' h => .inl ⟨hE0, h⟩
            · have hE4 : getE zs = 4 := by unfold getE; rw [if_pos hk, if_pos hko, if_neg (by rw [hsh]; simp), if_pos ⟨hr, hq⟩, if_neg hs]
              exact (read_seal a n cap zs p w hn hE hS hk (getL zs) hbd hb hr (decide_eq_true hq) (by simpa using hs) hlen).mono fun e w' h => .inr ⟨3, by omega, by omega, hE4, h⟩
          · have hE3 : getE zs = 3 := by unfold getE; rw [if_pos hk, if_pos hko, if_neg (by rw [hsh]; simp), if_neg (by simp [hq])]
            exact (read_bytes a n cap zs p w hn hE hS hk (getL zs) hbd hb hr (decide_eq_false hq)).mono fun e w' h => .inr ⟨2, by omega, by omega, hE3, h⟩
    by_cases h6 : (readHZ (getB zs)).kind = 6
    · have hko : kindOkB zs = true := by unfold kindOkB; rw [hH]; simp [h6]
      have hsh : shortB zs = false := by unfold shortB; rw [hH]; simp [h6]
      have hb := fun ad c W he hs => readBody_6 (readHZ (getB zs)) ad _ c ((getB zs).drop 20) p W rfl he hs h6 hdl
      cases hr : rightLsaB (getL zs) with
      | false =>
        have hE3 : getE zs = 3 := by unfold getE; rw [if_pos hk, if_pos hko, if_neg (by rw [hsh]; simp), if_neg (by rw [hr]; simp)]
        exact (read_right a n cap zs p w hn hE hS hk (getL zs) hbd hb hr).mono fun e w' h => .inr ⟨2, by omega, by omega, hE3, h⟩
      | true =>
        by_cases hq : layZ (getL zs) = getB zs
        · have hlen : ((sealH (getL zs)).len == (getL zs).head.len) = true := by
            have e1 : (sealH (getL zs)).len = ((layZ (getL zs)).length : Int) := rfl
            rw [beq_iff_eq, e1, hq, getL_len hk, getB_length hk]
            have := firstK_zero hk; omega
          by_cases hs : (sealH (getL zs)).sum = (getL zs).head.sum
          · have hE0 : getE zs = 0 := by unfold getE; rw [if_pos hk, if_pos hko, if_neg (by rw [hsh]; simp), if_pos ⟨hr, hq⟩, if_pos hs]
            exact (read_good a n cap zs p w hn hE hS hk (getL zs) hbd hb hr (decide_eq_true hq) (beq_iff_eq.2 hs) hlen).mono fun e w' h => .inl ⟨hE0, h⟩
          · have hE4 : getE zs = 4 := by unfold getE; rw [if_pos hk, if_pos hko, if_neg (by rw [hsh]; simp), if_pos ⟨hr, hq⟩, if_neg hs]
            exact (read_seal a n cap zs p w hn hE hS hk (getL zs) hbd hb hr (decide_eq_true hq) (by simpa using hs) hlen).mono fun e w' h => .inr ⟨3, by omega, by omega, hE4, h⟩
        · have hE3 : getE zs = 3 := by unfold getE; rw [if_pos hk, if_pos hko, if_neg (by rw [hsh]; simp), if_neg (by simp [hq])]
          exact (read_bytes a n cap zs p w hn hE hS hk (getL zs) hbd hb hr (decide_eq_false hq)).mono fun e w' h => .inr ⟨2, by omega, by omega, hE3, h⟩
    · have hE5 : getE zs = 5 := by unfold getE; rw [if_pos hk, if_neg (by unfold kindOkB; rw [hH]; simp [h1, h2, h6])]
      refine (read_body a n cap zs p w hn hE hS hk 4 (fun ad c W he hs => readBody_kind _ ad _ c _ p W rfl he hs h1 h2 h6)).mono fun e w' h => .inr ⟨4, by omega, by omega, hE5, h⟩
  · have hEk : getE zs = ((k + 1 : Nat) : Int) + 1 := by unfold getE; rw [if_neg (by rw [hk]; omega), hk]
    have hk3 : k + 1 < 5 := by rw [← hk]; unfold firstK; (repeat' split) <;> omega
    exact (read_first a n cap zs p w hn hE hS k hk).mono fun e w' h => .inr ⟨k + 1, by omega, hk3, hEk, h⟩
theorem number_any {w : World} {p : Nat → Addr} (h : EnvAt w p) (s : ByteArray) (k : Nat) (hk : k < 5) :
    Calls Tryd.prog 30 #[faultV s (p k)] w fun e w' => e = .returned (.int .i64 ((k : Int) + 1)) ∧ Below w.heap.size w w' := by
  match k, hk with
  | 0, _ => exact number_0 h s
  | 1, _ => exact number_1 h s
  | 2, _ => exact number_2 h s
  | 3, _ => exact number_3 h s
  | 4, _ => exact number_4 h s
end Go.Proofs.YtoanjhccbmifmaaDoor
