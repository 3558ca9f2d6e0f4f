/- Plain facts on the check sums of layer 2: sums of words, sums modulo 255, the pair of bytes that makes both nought. -/
namespace Go.Proofs.Ytgljblnegiadlaa

/-- The sum of 16-bit words, the high byte first; behind an odd last byte a nought. -/
def wordsZ : List Int → Int
  | [] => 0
  | [a] => 256 * a
  | a :: b :: r => 256 * a + b + wordsZ r
/-- Carries added in again. -/
def foldZ (s : Int) : Int := if s ≤ 0 then 0 else (s - 1) % 65535 + 1
def inetZ (zs : List Int) : Int := 65535 - foldZ (wordsZ zs)
def sumZ : List Int → Int
  | [] => 0
  | a :: r => a + sumZ r
/-- Each byte times how many there are from it on. -/
def wsumZ : List Int → Int
  | [] => 0
  | a :: r => a * ((r.length : Int) + 1) + wsumZ r
def cZ (zs : List Int) : Int := sumZ zs % 255
def dZ (zs : List Int) : Int := wsumZ zs % 255
def goodB (zs : List Int) : Bool := decide (cZ zs = 0 ∧ dZ zs = 0)
/-- The number from 1 to 255 that is n modulo 255. -/
def nzZ (n : Int) : Int := (n - 1) % 255 + 1
/-- Noughts at the places at and at + 1. -/
def holeZ (zs : List Int) (k : Nat) : List Int := (zs.set k 0).set (k + 1) 0
def fstZ (zs : List Int) (k : Nat) : Int := nzZ (((zs.length : Int) - k - 1) * sumZ (holeZ zs k) - wsumZ (holeZ zs k))
def sndZ (zs : List Int) (k : Nat) : Int := nzZ (wsumZ (holeZ zs k) - ((zs.length : Int) - k) * sumZ (holeZ zs k))
def pairZ (zs : List Int) (k : Nat) : Int := 256 * fstZ zs k + sndZ zs k
def pairAt (zs : List Int) (n : Int) : Int := if 0 ≤ n ∧ n ≤ (zs.length : Int) - 2 then pairZ zs n.toNat else 0

theorem wordsZ_bd : ∀ zs : List Int, (∀ z ∈ zs, 0 ≤ z ∧ z ≤ 255) → 0 ≤ wordsZ zs ∧ wordsZ zs ≤ 65535 * (zs.length : Int)
  | [], _ => by simp [wordsZ]
  | [a], h => by have := h a (by simp); simp [wordsZ]; omega
  | a :: b :: r, h => by
    have h1 := h a (by simp); have h2 := h b (by simp)
    have := wordsZ_bd r (fun z hz => h z (by simp [hz])); simp [wordsZ]; omega
theorem wordsZ_even : ∀ (l r : List Int), l.length % 2 = 0 → wordsZ (l ++ r) = wordsZ l + wordsZ r
  | [], r, _ => by simp [wordsZ]
  | [a], r, h => by simp at h
  | a :: b :: l, r, h => by
    have := wordsZ_even l r (by simp at h; omega)
    simp [wordsZ, this]; omega
theorem wordsZ_zeros : ∀ n : Nat, wordsZ (List.replicate n 0) = 0
  | 0 => rfl
  | 1 => rfl
  | n + 2 => by simp [List.replicate_succ, wordsZ]; exact wordsZ_zeros n
theorem wordsZ_odd : ∀ l : List Int, l.length % 2 = 1 → wordsZ (l ++ [0]) = wordsZ l
  | [], h => by simp at h
  | [a], _ => by simp [wordsZ]
  | a :: b :: l, h => by
    have := wordsZ_odd l (by simp at h; omega)
    simp [wordsZ, this]

theorem foldZ_small (s : Int) (h0 : 0 ≤ s) (h1 : s ≤ 65535) : foldZ s = s := by unfold foldZ; split <;> omega
theorem foldZ_bd (s : Int) : 0 ≤ foldZ s ∧ foldZ s ≤ 65535 := by unfold foldZ; split <;> omega
theorem foldZ_step (s : Int) (h : 65535 < s) : foldZ (s / 65536 + s % 65536) = foldZ s := by
  unfold foldZ; rw [if_neg (by omega), if_neg (by omega)]; omega
theorem foldZ_add (s x : Int) (h0 : 0 ≤ s) (hx : 0 ≤ x) : foldZ (foldZ s + x) = foldZ (s + x) := by
  unfold foldZ; split <;> split <;> split <;> omega
theorem foldZ_once (t : Int) (h0 : 0 ≤ t) (h1 : t ≤ 131070) : t % 65536 + t / 65536 = foldZ t := by
  unfold foldZ; split <;> omega
theorem foldZ_full (s : Int) (h : 0 ≤ s) : foldZ (s + (65535 - foldZ s)) = 65535 := by
  unfold foldZ; split <;> split <;> omega
theorem inetZ_bd (zs : List Int) : 0 ≤ inetZ zs ∧ inetZ zs ≤ 65535 := by have := foldZ_bd (wordsZ zs); unfold inetZ; omega
theorem inetZ_nil : inetZ [] = 65535 := by decide

theorem sumZ_append : ∀ l r : List Int, sumZ (l ++ r) = sumZ l + sumZ r
  | [], r => by simp [sumZ]
  | a :: l, r => by simp [sumZ, sumZ_append l r]; omega
theorem wsumZ_append : ∀ l r : List Int, wsumZ (l ++ r) = wsumZ l + sumZ l * (r.length : Int) + wsumZ r
  | [], r => by simp [wsumZ, sumZ]
  | a :: l, r => by
    simp only [List.cons_append, wsumZ, sumZ, wsumZ_append l r, List.length_append]
    push_cast; grind
theorem sumZ_snoc (l : List Int) (v : Int) : sumZ (l ++ [v]) = sumZ l + v := by rw [sumZ_append]; simp [sumZ]
theorem wsumZ_snoc (l : List Int) (v : Int) : wsumZ (l ++ [v]) = wsumZ l + sumZ l + v := by rw [wsumZ_append]; simp [wsumZ]
theorem cZ_bd (l : List Int) : 0 ≤ cZ l ∧ cZ l ≤ 254 := by unfold cZ; omega
theorem dZ_bd (l : List Int) : 0 ≤ dZ l ∧ dZ l ≤ 254 := by unfold dZ; omega
theorem cZ_snoc (l : List Int) (v : Int) : cZ (l ++ [v]) = (cZ l + v) % 255 := by unfold cZ; rw [sumZ_snoc]; omega
theorem dZ_snoc (l : List Int) (v : Int) : dZ (l ++ [v]) = (dZ l + cZ (l ++ [v])) % 255 := by unfold dZ cZ; rw [wsumZ_snoc, sumZ_snoc]; omega

theorem nzZ_bd (n : Int) : 1 ≤ nzZ n ∧ nzZ n ≤ 255 := by unfold nzZ; omega
theorem nzZ_eq (n m : Int) (h : n % 255 = m % 255) : nzZ n = nzZ m := by unfold nzZ; omega
theorem nzZ_mod (n : Int) : nzZ n % 255 = n % 255 := by unfold nzZ; omega
theorem nzZ_of (n x : Int) (h : x % 255 = n % 255) (h0 : 1 ≤ x) (h1 : x ≤ 255) : nzZ n = x := by unfold nzZ; omega

/-- The list in three parts, with x and y at the places k and k + 1. -/
def putZ (zs : List Int) (k : Nat) (x y : Int) : List Int := (zs.set k x).set (k + 1) y
theorem putZ_parts (zs : List Int) (k : Nat) (x y : Int) (h : k + 1 < zs.length) : putZ zs k x y = zs.take k ++ [x, y] ++ zs.drop (k + 2) := by
  unfold putZ
  apply List.ext_getElem
  · simp; omega
  · intro i h1 h2
    simp only [List.getElem_set, List.getElem_append, List.length_take, List.length_append, List.length_cons, List.length_nil, List.getElem_take, List.getElem_drop]
    simp at h1
    by_cases a : i < k
    · simp [show ¬ k + 1 = i by omega, show ¬ k = i by omega, show i < min k zs.length + 2 by omega, show i < min k zs.length by omega]
    · by_cases b : i = k
      · subst b; simp [show i < min i zs.length + 2 by omega, show ¬ i < min i zs.length by omega, show i - min i zs.length = 0 by omega]
      · by_cases c : i = k + 1
        · subst c; simp [show k + 1 < min k zs.length + 2 by omega, show ¬ k + 1 < min k zs.length by omega, show k + 1 - min k zs.length = 1 by omega]
        · simp [show ¬ k + 1 = i by omega, show ¬ k = i by omega, show ¬ i < min k zs.length + 2 by omega]
          congr 1; omega
theorem putZ_length (zs : List Int) (k : Nat) (x y : Int) : (putZ zs k x y).length = zs.length := by simp [putZ]
theorem putZ_same (zs : List Int) (k : Nat) (h : k + 1 < zs.length) : putZ zs k (zs.getD k 0) (zs.getD (k + 1) 0) = zs := by
  unfold putZ
  apply List.ext_getElem
  · simp
  · intro i h1 h2
    simp only [List.getElem_set]
    split
    · subst_vars; simp [h2]
    · split
      · subst_vars; simp [h2]
      · rfl
theorem sumZ_put (zs : List Int) (k : Nat) (x y : Int) (h : k + 1 < zs.length) : sumZ (putZ zs k x y) = sumZ (holeZ zs k) + x + y := by
  rw [show holeZ zs k = putZ zs k 0 0 from rfl, putZ_parts _ _ _ _ h, putZ_parts _ _ _ _ h]
  simp only [sumZ_append, sumZ]; omega
theorem wsumZ_put (zs : List Int) (k : Nat) (x y : Int) (h : k + 1 < zs.length) :
    wsumZ (putZ zs k x y) = wsumZ (holeZ zs k) + ((zs.length : Int) - k) * x + ((zs.length : Int) - k - 1) * y := by
  rw [show holeZ zs k = putZ zs k 0 0 from rfl, putZ_parts _ _ _ _ h, putZ_parts _ _ _ _ h]
  have e : ((zs.drop (k + 2)).length : Int) = (zs.length : Int) - k - 2 := by simp; omega
  simp only [wsumZ_append, sumZ_append, sumZ, wsumZ, List.length_cons, List.length_nil, e]
  push_cast
  grind

theorem mod_zero_add {a b : Int} (h : a % 255 = 0) : (a + b) % 255 = b % 255 := by omega

/-- The two bytes reckoned off the sums with what stands there counted in. -/
theorem fst_prog (zs : List Int) (k : Nat) (h : k + 1 < zs.length) :
    nzZ (zs.getD k 0 + ((zs.length : Int) - k - 1) * cZ zs - dZ zs) = fstZ zs k := by
  have e1 := sumZ_put zs k (zs.getD k 0) (zs.getD (k + 1) 0) h
  have e2 := wsumZ_put zs k (zs.getD k 0) (zs.getD (k + 1) 0) h
  rw [putZ_same zs k h] at e1 e2
  apply nzZ_eq
  apply Int.emod_emod_of_dvd _ (Int.dvd_refl 255) |>.symm.trans
  have m1 : ∃ q, cZ zs = sumZ zs - 255 * q := ⟨sumZ zs / 255, by unfold cZ; omega⟩
  have m2 : ∃ q, dZ zs = wsumZ zs - 255 * q := ⟨wsumZ zs / 255, by unfold dZ; omega⟩
  obtain ⟨q1, m1⟩ := m1
  obtain ⟨q2, m2⟩ := m2
  have : zs.getD k 0 + ((zs.length : Int) - k - 1) * cZ zs - dZ zs = (((zs.length : Int) - k - 1) * sumZ (holeZ zs k) - wsumZ (holeZ zs k)) + 255 * (q2 - ((zs.length : Int) - k - 1) * q1) := by
    rw [m1, m2, e1, e2]; grind
  rw [this]; omega
theorem snd_prog (zs : List Int) (k : Nat) (h : k + 1 < zs.length) :
    nzZ (zs.getD (k + 1) 0 + dZ zs - ((zs.length : Int) - k) * cZ zs) = sndZ zs k := by
  have e1 := sumZ_put zs k (zs.getD k 0) (zs.getD (k + 1) 0) h
  have e2 := wsumZ_put zs k (zs.getD k 0) (zs.getD (k + 1) 0) h
  rw [putZ_same zs k h] at e1 e2
  apply nzZ_eq
  have m1 : ∃ q, cZ zs = sumZ zs - 255 * q := ⟨sumZ zs / 255, by unfold cZ; omega⟩
  have m2 : ∃ q, dZ zs = wsumZ zs - 255 * q := ⟨wsumZ zs / 255, by unfold dZ; omega⟩
  obtain ⟨q1, m1⟩ := m1
  obtain ⟨q2, m2⟩ := m2
  have : zs.getD (k + 1) 0 + dZ zs - ((zs.length : Int) - k) * cZ zs = (wsumZ (holeZ zs k) - ((zs.length : Int) - k) * sumZ (holeZ zs k)) + 255 * (((zs.length : Int) - k) * q1 - q2) := by
    rw [m1, m2, e1, e2]; grind
  rw [this]; omega

/-- The same by the document's reckoning, off the sums with noughts in the two places. -/
theorem fst_ref (n k c d s w : Int) (hc : c = s % 255) (hd : d = w % 255) (hk : k = n % 255) : nzZ (k * c - d + 255) = nzZ (n * s - w) := by
  apply nzZ_eq
  have m1 : s = c + 255 * (s / 255) := by omega
  have m2 : w = d + 255 * (w / 255) := by omega
  have m3 : n = k + 255 * (n / 255) := by omega
  have : n * s - w = (k * c - d + 255) + 255 * (k * (s / 255) + (n / 255) * c + 255 * ((n / 255) * (s / 255)) - (w / 255) - 1) := by
    conv => lhs; rw [m1, m2, m3]
    grind
  rw [this]; omega
theorem snd_ref (n c s w x : Int) (hc : c = s % 255) (hx : x % 255 = ((n - 1) * s - w) % 255) : nzZ (510 - c - x) = nzZ (w - n * s) := by
  apply nzZ_eq
  have : w - n * s = - s - ((n - 1) * s - w) := by grind
  rw [this]; omega

/-- Good: both are nought; of a list with x and y put in. -/
theorem good_put (zs : List Int) (k : Nat) (h : k + 1 < zs.length) : goodB (putZ zs k (fstZ zs k) (sndZ zs k)) = true := by
  have f := nzZ_mod (((zs.length : Int) - k - 1) * sumZ (holeZ zs k) - wsumZ (holeZ zs k))
  have s := nzZ_mod (wsumZ (holeZ zs k) - ((zs.length : Int) - k) * sumZ (holeZ zs k))
  rw [show nzZ (((zs.length : Int) - k - 1) * sumZ (holeZ zs k) - wsumZ (holeZ zs k)) = fstZ zs k from rfl] at f
  rw [show nzZ (wsumZ (holeZ zs k) - ((zs.length : Int) - k) * sumZ (holeZ zs k)) = sndZ zs k from rfl] at s
  have e1 := sumZ_put zs k (fstZ zs k) (sndZ zs k) h
  have e2 := wsumZ_put zs k (fstZ zs k) (sndZ zs k) h
  unfold goodB cZ dZ
  rw [e1, e2]
  generalize fstZ zs k = x at *
  generalize sndZ zs k = y at *
  generalize sumZ (holeZ zs k) = S at *
  generalize wsumZ (holeZ zs k) = T at *
  generalize (zs.length : Int) - k = n at *
  obtain ⟨q1, hx⟩ : ∃ q, x = (n - 1) * S - T + 255 * q := ⟨(x - ((n - 1) * S - T)) / 255, by omega⟩
  obtain ⟨q2, hy⟩ : ∃ q, y = T - n * S + 255 * q := ⟨(y - (T - n * S)) / 255, by omega⟩
  have a1 : S + x + y = 255 * (q1 + q2) := by rw [hx, hy]; grind
  have a2 : T + n * x + (n - 1) * y = 255 * (n * q1 + (n - 1) * q2) := by rw [hx, hy]; grind
  rw [a1, a2]; simp
theorem good_only (zs : List Int) (k : Nat) (x y : Int) (h : k + 1 < zs.length) (x0 : 1 ≤ x) (x1 : x ≤ 255) (y0 : 1 ≤ y) (y1 : y ≤ 255) (g : goodB (putZ zs k x y) = true) : x = fstZ zs k ∧ y = sndZ zs k := by
  have e1 := sumZ_put zs k x y h
  have e2 := wsumZ_put zs k x y h
  unfold goodB cZ dZ at g
  rw [e1, e2] at g
  simp only [decide_eq_true_eq] at g
  obtain ⟨g1, g2⟩ := g
  unfold fstZ sndZ
  generalize sumZ (holeZ zs k) = S at *
  generalize wsumZ (holeZ zs k) = T at *
  generalize (zs.length : Int) - k = n at *
  obtain ⟨q1, h1⟩ : ∃ q, S + x + y = 255 * q := ⟨(S + x + y) / 255, by omega⟩
  obtain ⟨q2, h2⟩ : ∃ q, T + n * x + (n - 1) * y = 255 * q := ⟨(T + n * x + (n - 1) * y) / 255, by omega⟩
  have a1 : (n - 1) * S - T = x + 255 * ((n - 1) * q1 - q2) := by grind
  have a2 : T - n * S = y + 255 * (q2 - n * q1) := by grind
  constructor
  · rw [a1]; unfold nzZ; omega
  · rw [a2]; unfold nzZ; omega
theorem sumZ_set : ∀ (zs : List Int) (k : Nat) (x : Int), k < zs.length → sumZ (zs.set k x) = sumZ zs - zs.getD k 0 + x
  | [], k, x, h => by simp at h
  | a :: r, 0, x, _ => by simp [sumZ]; omega
  | a :: r, k + 1, x, h => by
    have := sumZ_set r k x (by simpa using h)
    simp [sumZ, this]; omega
/-- One byte turned, not from 0 to 255 or back: no longer good. -/
theorem good_turned (zs : List Int) (k : Nat) (v : Int) (h : k < zs.length) (g : goodB zs = true) (hv : v ≠ zs.getD k 0) (b0 : 0 ≤ v) (b1 : v ≤ 255) (c0 : 0 ≤ zs.getD k 0) (c1 : zs.getD k 0 ≤ 255)
    (o1 : ¬ (zs.getD k 0 = 0 ∧ v = 255)) (o2 : ¬ (zs.getD k 0 = 255 ∧ v = 0)) : goodB (zs.set k v) = false := by
  have e := sumZ_set zs k v h
  unfold goodB cZ dZ at *
  simp only [decide_eq_true_eq] at g
  obtain ⟨g1, _⟩ := g
  simp only [decide_eq_false_iff_not]
  rintro ⟨h1, _⟩
  rw [e] at h1
  omega
end Go.Proofs.Ytgljblnegiadlaa
