/- Sealed bytes have good sums; with a byte turned they are refused; they are read back. -/
import Derived.Test.YtoanjhccbmifmaaDoorS5GD
import Derived.Test.YtoanjhccbmifmaaDoorS5T
namespace Go.Proofs.YtoanjhccbmifmaaDoor
set_option linter.unusedVariables false

theorem getE_zero {zs : List Int} (h : getE zs = 0) : firstK zs = 0 ∧ rightLsaB (getL zs) = true ∧ layZ (getL zs) = getB zs ∧ (sealH (getL zs)).sum = (getL zs).head.sum := by
  have hf := getE_first h
  refine ⟨hf, ?_⟩
  unfold getE at h
  rw [if_pos hf] at h
  split at h
  · split at h
    · omega
    · split at h
      · rename_i _ _ hq
        split at h
        · rename_i hs; exact ⟨hq.1, hq.2, hs⟩
        · omega
      · omega
  · omega
/-- Bytes whose Sum and Len are the seal's are good. -/
theorem sealed_good (l : LsaZ) (hs : (sealH l).sum = l.head.sum) (hl : lenZ l = l.head.len) : goodB ((layZ l).drop 2) = true := by
  rw [seal_sum, hl] at hs
  have hz : pairAt (front l.head ++ be2 l.head.sum ++ (be2 l.head.len ++ bodyZ l)) 14 = l.head.sum := by
    have := pair_hole (front l.head) (be2 l.head.len ++ bodyZ l) (l.head.sum / 256 % 256) (l.head.sum % 256)
    rw [front_length] at this
    exact (this.trans hs)
  rw [lay_drop]
  generalize hzs : front l.head ++ be2 l.head.sum ++ (be2 l.head.len ++ bodyZ l) = zs at *
  have hlen : 16 ≤ zs.length := by rw [← hzs]; simp [front_length, be2]; omega
  have e14 : zs.getD 14 0 = l.head.sum / 256 % 256 := by rw [← hzs]; rfl
  have e15 : zs.getD 15 0 = l.head.sum % 256 := by rw [← hzs]; rfl
  unfold pairAt at hz
  rw [if_pos (by omega)] at hz
  have h14 : (14 : Int).toNat = 14 := rfl
  rw [h14] at hz
  unfold pairZ at hz
  have b1 : 1 ≤ fstZ zs 14 ∧ fstZ zs 14 ≤ 255 := nzZ_bd _
  have b2 : 1 ≤ sndZ zs 14 ∧ sndZ zs 14 ≤ 255 := nzZ_bd _
  have g := good_put zs 14 (by omega)
  have f1 : fstZ zs 14 = zs.getD 14 0 := by rw [e14]; omega
  have f2 : sndZ zs 14 = zs.getD 15 0 := by rw [e15]; omega
  rw [f1, f2, putZ_same zs 14 (by omega)] at g
  exact g
theorem len_of_lay {h : HeadZ} (hf : HFit h) (t : List Int) : lenAt (headZ h ++ t) = h.len := by rw [← read_len, read_head h t hf]
/-- The bytes of one that is sealed. -/
theorem seal_lay (l : LsaZ) : layZ (withHead l (sealH l)) = headZ (sealH l) ++ bodyZ l := lay_head l _ (sealH_kind l)
theorem seal_lay_len (l : LsaZ) : ((layZ (withHead l (sealH l))).length : Int) = (sealH l).len := by
  have e := lenZ_head l _ (sealH_kind l)
  rw [seal_len, ← e]; rfl
theorem set_drop (zs : List Int) (k m : Nat) (v : Int) (h : m ≤ k) : (zs.set k v).drop m = (zs.drop m).set (k - m) v := by
  rw [List.drop_set, if_neg (by omega)]
theorem getD_set_ne (l : List Int) (i j : Nat) (v : Int) (h : i ≠ j) : (l.set i v).getD j 0 = l.getD j 0 := by
  simp [List.getD_eq_getElem?_getD, h]
theorem turned_none (l : LsaZ) (hr : rightLsaB l = true) (k : Nat) (v : Int) (hk : 2 ≤ k) (hk2 : k < (layZ (withHead l (sealH l))).length) (h18 : k ≠ 18) (h19 : k ≠ 19)
    (hv : v ≠ (layZ (withHead l (sealH l))).getD k 0) (b0 : 0 ≤ v) (b1 : v ≤ 255) (o1 : ¬ ((layZ (withHead l (sealH l))).getD k 0 = 0 ∧ v = 255)) (o2 : ¬ ((layZ (withHead l (sealH l))).getD k 0 = 255 ∧ v = 0)) :
    getE ((layZ (withHead l (sealH l))).set k v) ≠ 0 := by
  intro hE
  obtain ⟨hf, hR, hB, hs⟩ := getE_zero hE
  have hlen := seal_lay_len l
  have hfit := seal_fit hr
  have hla : lenAt (layZ (withHead l (sealH l))) = (sealH l).len := by rw [seal_lay]; exact len_of_lay hfit _
  have hg : goodB ((layZ (withHead l (sealH l))).drop 2) = true := by
    refine sealed_good _ ?_ ?_
    · rw [seal_again]; rfl
    · rw [lenZ_head l _ (sealH_kind l)]; exact (seal_len l).symm
  have hbd := layZ_bd (withHead l (sealH l))
  generalize layZ (withHead l (sealH l)) = bs at *
  have hls : lenAt (bs.set k v) = lenAt bs := by
    unfold lenAt num2At; rw [getD_set_ne _ _ _ _ h18, getD_set_ne _ _ _ _ h19]
  have hBB : getB (bs.set k v) = bs.set k v := by
    unfold getB; rw [hls, hla, ← hlen]; exact List.take_of_length_le (by simp)
  have hll : lenZ (getL (bs.set k v)) = (getL (bs.set k v)).head.len := by
    rw [getL_len hf, hls, hla, ← hlen]
    show ((layZ (getL (bs.set k v))).length : Int) = _
    rw [hB, hBB]; simp
  have g2 := sealed_good _ hs hll
  rw [hB, hBB, set_drop _ _ _ _ hk] at g2
  have e : (bs.drop 2).getD (k - 2) 0 = bs.getD k 0 := by rw [getD_drop]; congr 1; omega
  have hb := areBytes_getD hbd k
  have := good_turned (bs.drop 2) (k - 2) v (by rw [List.length_drop]; omega) hg (by rw [e]; exact hv) b0 b1 (by rw [e]; exact hb.1) (by rw [e]; exact hb.2) (by rw [e]; exact o1) (by rw [e]; exact o2)
  rw [this] at g2; cases g2
theorem flat_drop {α : Type} (f : α → List Int) (m : Nat) (hf : ∀ x, (f x).length = m) : ∀ (l : List α) (k : Nat) (h : k < l.length), (l.flatMap f).drop (k * m) = f l[k] ++ (l.drop (k + 1)).flatMap f
  | [], k, h => by simp at h
  | x :: l, 0, h => by simp
  | x :: l, k + 1, h => by
    have hk : k < l.length := by simpa using h
    have e : (k + 1) * m = (f x).length + k * m := by rw [hf, Nat.add_mul, Nat.one_mul, Nat.add_comm]
    rw [List.flatMap_cons, e, ← List.drop_drop, List.drop_left, flat_drop f m hf l k hk]
    simp
theorem readL_flat {α : Type} (f : α → List Int) (g : List Int → α) (P : α → Bool) (m : Nat) (hm : 0 < m) (hf : ∀ x, (f x).length = m) (hg : ∀ x t, P x = true → g (f x ++ t) = x) (l : List α) (hl : l.all P = true) :
    readL m g (l.flatMap f) = l := by
  have hlen : (readL m g (l.flatMap f)).length = l.length := by rw [readL_length, flat_length f m hf, Nat.mul_div_cancel _ hm]
  apply List.ext_getElem hlen
  intro k h1 h2
  rw [readL_at, flat_drop f m hf l k h2]
  exact hg _ _ (List.all_eq_true.1 hl _ (List.getElem_mem h2))
theorem readL_links (l : List LinkZ) (h : l.all rightLinkB = true) : readL 12 readLZ (l.flatMap linkZ) = l :=
  readL_flat linkZ readLZ rightLinkB 12 (by decide) (fun _ => rfl) (fun x t hx => by
    unfold rightLinkB at hx
    simp only [Bool.and_eq_true, amongB_true] at hx
    obtain ⟨⟨⟨hk, hi⟩, hd⟩, hc⟩ := hx
    have hi' := rightI_bd hi
    have hd' := rightI_bd hd
    refine LinkZ.same ?_ ?_ ?_ ?_
    · show x.kind % 256 = x.kind; omega
    · show num4 (x.id / 16777216 % 256) (x.id / 65536 % 256) (x.id / 256 % 256) (x.id % 256) = x.id
      exact num4_be4 _ hi'.1 hi'.2
    · show num4 (x.data / 16777216 % 256) (x.data / 65536 % 256) (x.data / 256 % 256) (x.data % 256) = x.data
      exact num4_be4 _ hd'.1 hd'.2
    · show x.cost / 256 % 256 * 256 + x.cost % 256 = x.cost; omega) l h
theorem readL_verts (l : List VertZ) (h : l.all rightVertB = true) : readL 8 readVZ (l.flatMap vertZ) = l :=
  readL_flat vertZ readVZ rightVertB 8 (by decide) (fun _ => rfl) (fun x t hx => by
    unfold rightVertB at hx
    simp only [Bool.and_eq_true, amongB_true] at hx
    obtain ⟨hk, hi⟩ := hx
    have hi' := rightI_bd hi
    refine VertZ.same ?_ ?_
    · show num4 (x.kind / 16777216 % 256) (x.kind / 65536 % 256) (x.kind / 256 % 256) (x.kind % 256) = x.kind
      exact num4_be4 _ (by omega) (by omega)
    · show num4 (x.id / 16777216 % 256) (x.id / 65536 % 256) (x.id / 256 % 256) (x.id % 256) = x.id
      exact num4_be4 _ hi'.1 hi'.2) l h
theorem readL_ints (l : List Int) (h : l.all rightI = true) : readL 4 readIZ (l.flatMap be4) = l :=
  readL_flat be4 readIZ rightI 4 (by decide) (fun _ => rfl) (fun x t hx => by
    have hi' := rightI_bd hx
    show num4 (x / 16777216 % 256) (x / 65536 % 256) (x / 256 % 256) (x % 256) = x
    exact num4_be4 _ hi'.1 hi'.2) l h
theorem nil_of {α : Type} {l : List α} (h : l.length = 0) : l = [] := List.eq_nil_of_length_eq_zero h
theorem body_back {l : LsaZ} (hr : RC l) : bodyOf l.head (bodyZ l) = l := by
  unfold bodyOf bodyZ
  by_cases h1 : l.head.kind = 1
  · obtain ⟨e1, e2⟩ := hr.n2 (by omega)
    have e3 := hr.n6 (by omega)
    have hf := hr.f
    rw [if_pos h1, if_pos h1]
    refine LsaZ.same rfl ?_ ?_ e1.symm (nil_of e2).symm (nil_of e3).symm
    · show l.flags % 256 = l.flags; omega
    · show readL 12 readLZ (l.links.flatMap linkZ) = l.links
      exact readL_links _ hr.al
  · obtain ⟨e1, e2⟩ := hr.n1 h1
    by_cases h2 : l.head.kind = 2
    · have e3 := hr.n6 (by omega)
      have hb := hr.b
      rw [if_neg h1, if_pos h2, if_neg h1, if_pos h2]
      refine LsaZ.same rfl e1.symm (nil_of e2).symm ?_ ?_ (nil_of e3).symm
      · have hm := maskN_bd (clampN l.bits) (clampN_le _)
        show bitsZ (num4 (maskN (clampN l.bits) / 16777216 % 256) (maskN (clampN l.bits) / 65536 % 256) (maskN (clampN l.bits) / 256 % 256) (maskN (clampN l.bits) % 256)) = l.bits
        rw [num4_be4 _ hm.1 hm.2, bitsZ_mask _ (clampN_le _), clampN_of _ hb.1 hb.2]; omega
      · show readL 4 readIZ (l.routers.flatMap be4) = l.routers
        exact readL_ints _ hr.ar
    · obtain ⟨e3, e4⟩ := hr.n2 h2
      have hk := (right_head hr).1
      have h6 : l.head.kind = 6 := by omega
      rw [if_neg h1, if_neg h2, if_neg h1, if_neg h2, if_pos h6]
      exact LsaZ.same rfl e1.symm (nil_of e2).symm e3.symm (nil_of e4).symm (readL_verts _ hr.av)
theorem got_back (l : LsaZ) (hr : rightLsaB l = true) (t : List Int) : getE (layZ (withHead l (sealH l)) ++ t) = 0 ∧ getL (layZ (withHead l (sealH l)) ++ t) = withHead l (sealH l) := by
  have hfit := seal_fit hr
  have hRS := right_sealed hr
  have hlen := seal_lay_len l
  have h20 := lay_min (withHead l (sealH l))
  have hla : lenAt (layZ (withHead l (sealH l)) ++ t) = (sealH l).len := by rw [seal_lay, List.append_assoc]; exact len_of_lay hfit _
  have hf : firstK (layZ (withHead l (sealH l)) ++ t) = 0 := by
    unfold firstK
    rw [if_neg (by rw [List.length_append]; omega), hla, if_neg (by omega), if_neg (by rw [List.length_append]; omega)]
  have hB : getB (layZ (withHead l (sealH l)) ++ t) = layZ (withHead l (sealH l)) := by
    unfold getB; rw [hla, ← hlen]; simp
  have hRH : readHZ (layZ (withHead l (sealH l))) = (withHead l (sealH l)).head := by rw [seal_lay]; exact read_head _ _ hfit
  have hD : (layZ (withHead l (sealH l))).drop 20 = bodyZ (withHead l (sealH l)) := by unfold layZ; exact List.drop_left' rfl
  have hL : getL (layZ (withHead l (sealH l)) ++ t) = withHead l (sealH l) := by
    unfold getL; rw [hB, hRH, hD]; exact body_back (rc_of hRS)
  refine ⟨?_, hL⟩
  have hk := (right_head (rc_of hRS)).1
  unfold getE
  rw [if_pos hf, if_pos (by unfold kindOkB; rw [hL]; simp; omega), if_neg ?_, if_pos ⟨by rw [hL]; exact hRS, by rw [hL, hB]⟩, if_pos (by rw [hL, seal_again]; rfl)]
  unfold shortB
  rw [hL, hB, hD, bodyZ_length]
  rcases hk with h | h | h
  · rw [if_pos h]; simp [h]
  · rw [if_neg (by omega), if_pos h]; simp [h]
  · simp [h]
end Go.Proofs.YtoanjhccbmifmaaDoor
