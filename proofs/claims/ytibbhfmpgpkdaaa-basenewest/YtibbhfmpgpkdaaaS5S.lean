/- Seals, in plain data. -/
import Derived.Test.YtibbhfmpgpkdaaaS5V
namespace Go.Proofs.Ytibbhfmpgpkdaaa

theorem hole_mid (a c : List Int) (x y : Int) : holeZ (a ++ [x, y] ++ c) a.length = a ++ [0, 0] ++ c := by
  unfold holeZ
  rw [List.append_assoc, List.set_append_right _ _ (Nat.le_refl _), List.set_append_right _ _ (Nat.le_succ _)]
  simp
theorem pair_hole (a c : List Int) (x y : Int) : pairAt (a ++ [x, y] ++ c) a.length = pairAt (a ++ [0, 0] ++ c) a.length := by
  have e : (a ++ [x, y] ++ c).length = (a ++ [0, 0] ++ c).length := by simp
  unfold pairAt pairZ fstZ sndZ
  rw [e, Int.toNat_natCast, hole_mid, hole_mid]
def front (h : HeadZ) : List Int := [0, h.kind % 256] ++ be4 h.id ++ be4 h.adv ++ be4 h.seq
theorem front_length (h : HeadZ) : (front h).length = 14 := rfl
theorem lay_drop (l : LsaZ) : (layZ l).drop 2 = front l.head ++ be2 l.head.sum ++ (be2 l.head.len ++ bodyZ l) := by
  unfold layZ headZ front
  rw [show be2 l.head.age ++ [0, l.head.kind % 256] ++ be4 l.head.id ++ be4 l.head.adv ++ be4 l.head.seq ++ be2 l.head.sum ++ be2 l.head.len ++ bodyZ l = be2 l.head.age ++ ([0, l.head.kind % 256] ++ be4 l.head.id ++ be4 l.head.adv ++ be4 l.head.seq ++ be2 l.head.sum ++ (be2 l.head.len ++ bodyZ l)) by simp only [List.append_assoc]]
  rfl
theorem sumOf_eq (l : LsaZ) : sumOf l = pairAt (front l.head ++ [0, 0] ++ (be2 l.head.len ++ bodyZ l)) 14 := by
  unfold sumOf
  rw [lay_drop]
  exact pair_hole (front l.head) (be2 l.head.len ++ bodyZ l) _ _
theorem body_head (l : LsaZ) (h : HeadZ) (hk : h.kind = l.head.kind) : bodyZ (withHead l h) = bodyZ l := by
  unfold bodyZ
  show (if h.kind = 1 then _ else if h.kind = 2 then _ else if h.kind = 6 then _ else _) = _
  rw [hk]; rfl
theorem lay_head (l : LsaZ) (h : HeadZ) (hk : h.kind = l.head.kind) : layZ (withHead l h) = headZ h ++ bodyZ l := by
  unfold layZ; rw [body_head l h hk]; rfl
theorem lenZ_eq (l : LsaZ) : lenZ l = 20 + (bodyZ l).length := by unfold lenZ layZ; rw [List.length_append, headZ_length]; omega
theorem lenZ_head (l : LsaZ) (h : HeadZ) (hk : h.kind = l.head.kind) : lenZ (withHead l h) = lenZ l := by rw [lenZ_eq, lenZ_eq, body_head l h hk]
theorem body_len (l : LsaZ) (n : Int) : bodyZ (withLen l n) = bodyZ l := by unfold bodyZ withLen; with_reducible rfl
theorem seal_sum (l : LsaZ) : (sealH l).sum = pairAt (front l.head ++ [0, 0] ++ (be2 (lenZ l) ++ bodyZ l)) 14 := by
  have : (sealH l).sum = sumOf (withLen l (lenZ l)) := by unfold sealH; with_reducible rfl
  rw [this, sumOf_eq, body_len]; rfl
theorem seal_len (l : LsaZ) : (sealH l).len = lenZ l := by unfold sealH; with_reducible rfl
/-- The same but for Age, Sum and Len. -/
structure Like (a b : HeadZ) : Prop where
  kind : a.kind = b.kind
  id : a.id = b.id
  adv : a.adv = b.adv
  seq : a.seq = b.seq
theorem seal_like (l : LsaZ) (h : HeadZ) (hs : Like h l.head) : (sealH (withHead l h)).sum = (sealH l).sum ∧ (sealH (withHead l h)).len = (sealH l).len := by
  obtain ⟨h1, h2, h3, h4⟩ := hs
  rw [seal_sum, seal_sum, seal_len, seal_len, lenZ_head l h h1, body_head l h h1]
  have : front (withHead l h).head = front l.head := by
    show front h = _
    unfold front; rw [h1, h2, h3, h4]
  rw [this]; exact ⟨rfl, rfl⟩
theorem like_seal (l : LsaZ) : Like (sealH l) l.head := ⟨sealH_kind l, sealH_id l, sealH_adv l, sealH_seq l⟩
theorem right_like (l : LsaZ) (h : HeadZ) (hs : Like h l.head) (ha : amongB h.age 0 3600 = true) (hr : rightLsaB l = true) : rightLsaB (withHead l h) = true := by
  obtain ⟨h1, h2, h3, h4⟩ := hs
  have e2 : rightBodyB (withHead l h) = rightBodyB l := by
    unfold rightBodyB
    show (if h.kind = 1 then _ else if h.kind = 2 then _ else if h.kind = 6 then _ else _) = _
    rw [h1]; rfl
  unfold rightLsaB rightHeadB at hr ⊢
  rw [e2]
  show (amongB h.age 0 3600 && rightI h.id && rightI h.adv && (h.adv != 0) && amongB h.seq (-2147483647) 2147483647 && _) = true
  rw [h2, h3, h4, ha]
  simp only [Bool.and_eq_true] at hr ⊢
  exact ⟨⟨⟨⟨⟨trivial, hr.1.1.1.1.2⟩, hr.1.1.1.2⟩, hr.1.1.2⟩, hr.1.2⟩, hr.2⟩
theorem right_age {l : LsaZ} (hr : rightLsaB l = true) : amongB l.head.age 0 3600 = true := by
  unfold rightLsaB rightHeadB at hr
  simp only [Bool.and_eq_true] at hr
  exact hr.1.1.1.1.1
theorem right_sealed {l : LsaZ} (hr : rightLsaB l = true) : rightLsaB (withHead l (sealH l)) = true := right_like l _ (like_seal l) (by rw [sealH_age]; exact right_age hr) hr
theorem sealed_sealed {l : LsaZ} (hr : rightLsaB l = true) : sealedB (withHead l (sealH l)) = true := by
  unfold sealedB
  rw [right_sealed hr, (seal_like l _ (like_seal l)).1, (seal_like l _ (like_seal l)).2]
  show (true && (((sealH l).sum == (sealH l).sum) && ((sealH l).len == (sealH l).len))) = true
  simp
theorem seal_again (l : LsaZ) : sealH (withHead l (sealH l)) = sealH l := by
  obtain ⟨h1, h2⟩ := seal_like l _ (like_seal l)
  exact HeadZ.same (sealH_age _) (sealH_kind _) (sealH_id _) (sealH_adv _) (sealH_seq _) h1 h2
end Go.Proofs.Ytibbhfmpgpkdaaa
