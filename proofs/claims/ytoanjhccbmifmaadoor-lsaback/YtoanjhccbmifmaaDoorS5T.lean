/- Heads read back, in plain data. -/
import Derived.Test.YtoanjhccbmifmaaDoorS5S
import Derived.Test.YtoanjhccbmifmaaDoorS5W17
import Derived.Test.YtoanjhccbmifmaaDoorS5R1
namespace Go.Proofs.YtoanjhccbmifmaaDoor

/-- A head whose numbers fit. -/
structure HFit (h : HeadZ) : Prop where
  age : 0 ≤ h.age ∧ h.age ≤ 65535
  kind : 0 ≤ h.kind ∧ h.kind ≤ 255
  id : 0 ≤ h.id ∧ h.id ≤ 4294967295
  adv : 0 ≤ h.adv ∧ h.adv ≤ 4294967295
  seq : -2147483648 ≤ h.seq ∧ h.seq ≤ 2147483647
  sum : 0 ≤ h.sum ∧ h.sum ≤ 65535
  len : 0 ≤ h.len ∧ h.len ≤ 65535
theorem read_head (h : HeadZ) (t : List Int) (hf : HFit h) : readHZ (headZ h ++ t) = h := by
  obtain ⟨h1, h2, h3, h4, h5, h6, h7⟩ := hf
  refine HeadZ.same ?_ ?_ ?_ ?_ ?_ ?_ ?_
  · show h.age / 256 % 256 * 256 + h.age % 256 = h.age; omega
  · show h.kind % 256 = h.kind; omega
  · show num4 (h.id / 16777216 % 256) (h.id / 65536 % 256) (h.id / 256 % 256) (h.id % 256) = h.id
    exact num4_be4 _ h3.1 h3.2
  · show num4 (h.adv / 16777216 % 256) (h.adv / 65536 % 256) (h.adv / 256 % 256) (h.adv % 256) = h.adv
    exact num4_be4 _ h4.1 h4.2
  · show seqZ (num4 (h.seq / 16777216 % 256) (h.seq / 65536 % 256) (h.seq / 256 % 256) (h.seq % 256)) = h.seq
    unfold seqZ num4; split <;> omega
  · show h.sum / 256 % 256 * 256 + h.sum % 256 = h.sum; omega
  · show h.len / 256 % 256 * 256 + h.len % 256 = h.len; omega
theorem got_head (h : HeadZ) (t : List Int) : gotHB (headZ h ++ t) = true := by
  unfold gotHB
  rw [decide_eq_true (by rw [List.length_append, headZ_length]; omega)]; rfl
theorem pairAt_bd (zs : List Int) (n : Int) : 0 ≤ pairAt zs n ∧ pairAt zs n ≤ 65535 := by
  unfold pairAt pairZ
  split
  · have h1 : 1 ≤ fstZ zs n.toNat ∧ fstZ zs n.toNat ≤ 255 := nzZ_bd _
    have h2 : 1 ≤ sndZ zs n.toNat ∧ sndZ zs n.toNat ≤ 255 := nzZ_bd _
    omega
  · omega
theorem rightI_bd {n : Int} (h : rightI n = true) : 0 ≤ n ∧ n ≤ 4294967295 := by unfold rightI at h; simpa using h
theorem right_len {l : LsaZ} (h : RC l) : 20 ≤ lenZ l ∧ lenZ l ≤ 1000 := by
  rw [lenZ_eq, bodyZ_length]
  have := h.ll; have := h.rl; have := h.vl
  split
  · omega
  · split
    · omega
    · split <;> omega
theorem right_head {l : LsaZ} (h : RC l) : (l.head.kind = 1 ∨ l.head.kind = 2 ∨ l.head.kind = 6) ∧ (0 ≤ l.head.age ∧ l.head.age ≤ 3600) ∧ rightI l.head.id = true ∧ rightI l.head.adv = true ∧ (-2147483647 ≤ l.head.seq ∧ l.head.seq ≤ 2147483647) := by
  have h0 := h.head
  unfold headRB kindB rightHeadB at h0
  simp only [Bool.and_eq_true, Bool.or_eq_true, beq_iff_eq, amongB_true] at h0
  obtain ⟨hk, ⟨⟨⟨ha, hi⟩, hv⟩, _⟩, hs⟩ := h0
  exact ⟨by omega, ha, hi, hv, hs⟩
theorem seal_fit {l : LsaZ} (h : rightLsaB l = true) : HFit (sealH l) := by
  have hr := rc_of h
  obtain ⟨hk, ha, hi, hv, hs⟩ := right_head hr
  have hl := right_len hr
  have hi' := rightI_bd hi
  have hv' := rightI_bd hv
  refine ⟨?_, ?_, ?_, ?_, ?_, ?_, ?_⟩
  · rw [sealH_age]; omega
  · rw [sealH_kind]; omega
  · rw [sealH_id]; exact hi'
  · rw [sealH_adv]; exact hv'
  · rw [sealH_seq]; omega
  · rw [seal_sum]; exact pairAt_bd _ _
  · rw [seal_len]; omega
end Go.Proofs.YtoanjhccbmifmaaDoor
