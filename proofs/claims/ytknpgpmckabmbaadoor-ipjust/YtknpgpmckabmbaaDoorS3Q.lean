/- Plain facts: when bytes are a datagram's, by the document's words. -/
import Derived.Test.YtknpgpmckabmbaaDoorS3P
namespace Go.Proofs.YtknpgpmckabmbaaDoor

theorem take8_of (zs : List Int) (h : 8 ≤ zs.length) : zs.take 8 = [zs.getD 0 0, zs.getD 1 0, zs.getD 2 0, zs.getD 3 0, zs.getD 4 0, zs.getD 5 0, zs.getD 6 0, zs.getD 7 0] := by
  match zs, h with
  | a :: b :: c :: d :: e :: f :: g :: i :: r, _ => simp
theorem wantZ_take (zs : List Int) : (wantZ zs).take 8 = [69, 0, (20 + ((zs.length : Int) - 20)) / 256 % 256, (20 + ((zs.length : Int) - 20)) % 256, 0, 0, 0, 0] := rfl
/-- The beginning and the length, as the document asks them. -/
theorem form_iff (zs : List Int) (hz : ∀ k, 0 ≤ zs.getD k 0 ∧ zs.getD k 0 ≤ 255) (h1 : 20 ≤ zs.length) (h2 : zs.length ≤ 1044) :
    zs.take 8 = (wantZ zs).take 8 ↔ (zs.getD 0 0 = 69 ∧ zs.getD 1 0 = 0 ∧ num4 (zs.getD 4 0) (zs.getD 5 0) (zs.getD 6 0) (zs.getD 7 0) = 0 ∧ zs.getD 2 0 * 256 + zs.getD 3 0 = zs.length) := by
  rw [take8_of zs (by omega), wantZ_take]
  have b0 := hz 0; have b1 := hz 1; have b2 := hz 2; have b3 := hz 3; have b4 := hz 4; have b5 := hz 5; have b6 := hz 6; have b7 := hz 7
  unfold num4
  simp only [List.cons.injEq, and_true]
  generalize zs.getD 0 0 = z0 at *
  generalize zs.getD 1 0 = z1 at *
  generalize zs.getD 2 0 = z2 at *
  generalize zs.getD 3 0 = z3 at *
  generalize zs.getD 4 0 = z4 at *
  generalize zs.getD 5 0 = z5 at *
  generalize zs.getD 6 0 = z6 at *
  generalize zs.getD 7 0 = z7 at *
  constructor
  · rintro ⟨h0, h1, h2, h3, h4, h5, h6, h7⟩
    refine ⟨h0, h1, ?_, ?_⟩ <;> omega
  · rintro ⟨h0, h1, h2, h3⟩
    refine ⟨h0, h1, ?_, ?_, ?_, ?_, ?_, ?_⟩ <;> omega
theorem whole_iff (zs : List Int) : (wantZ zs ++ zs.drop 20 = zs) ↔ zs.take 20 = wantZ zs := by
  constructor
  · intro h
    have : (wantZ zs ++ zs.drop 20).take 20 = wantZ zs := by rw [List.take_append_of_le_length (by rw [show (wantZ zs).length = 20 from rfl]; exact Nat.le_refl _)]; exact List.take_of_length_le (by rw [show (wantZ zs).length = 20 from rfl]; exact Nat.le_refl _)
    rw [h] at this; exact this
  · intro h
    rw [← h, List.take_append_drop]
theorem put_of_got (zs : List Int) (hz : ∀ k, 0 ≤ zs.getD k 0 ∧ zs.getD k 0 ≤ 255) (m : Nat) (hm : m ≤ 1024) : putE (getT zs) (getP zs) (getS zs) (getA zs) m = 0 := by
  have hS := num4_bd _ _ _ _ (hz 12) (hz 13) (hz 14) (hz 15)
  have hA := num4_bd _ _ _ _ (hz 16) (hz 17) (hz 18) (hz 19)
  have hT := hz 8
  have hP := hz 9
  unfold putE
  have ho : okB (getT zs) (getP zs) (getS zs) (getA zs) = true := by
    unfold okB rightI getT getP getS getA
    simp only [Bool.and_eq_true, decide_eq_true_eq]
    exact ⟨⟨⟨hT, hP⟩, hS⟩, hA⟩
  rw [if_neg (by simp [ho]), if_neg (by omega)]
end Go.Proofs.YtknpgpmckabmbaaDoor
