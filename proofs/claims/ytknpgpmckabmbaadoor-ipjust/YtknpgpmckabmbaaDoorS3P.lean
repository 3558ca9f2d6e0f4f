/- Plain facts on datagrams: their bytes, what is told of bytes, when. -/
import Derived.Test.YtknpgpmckabmbaaDoorS2P
namespace Go.Proofs.YtknpgpmckabmbaaDoor

/-- The low k bytes of a number, the high one first. -/
def beN : Nat → Int → List Int
  | 0, _ => []
  | k + 1, n => n / 2 ^ (8 * k) % 256 :: beN k n
def be2 (n : Int) : List Int := [n / 256 % 256, n % 256]
def be4 (n : Int) : List Int := [n / 16777216 % 256, n / 65536 % 256, n / 256 % 256, n % 256]
theorem beN_2 (n : Int) : beN 2 n = be2 n := by simp [beN, be2]
theorem beN_4 (n : Int) : beN 4 n = be4 n := by simp [beN, be4]
theorem beN_length : ∀ (k : Nat) (n : Int), (beN k n).length = k
  | 0, _ => rfl
  | k + 1, n => by simp [beN, beN_length k n]
theorem beN_zero : ∀ k : Nat, beN k 0 = List.replicate k 0
  | 0 => rfl
  | k + 1 => by simp [beN, beN_zero k, List.replicate_succ]
/-- Bytes as a number, the high one first. -/
def numZ (zs : List Int) : Int := zs.foldl (fun n v => n * 256 + v) 0
def num4 (a b c d : Int) : Int := ((a * 256 + b) * 256 + c) * 256 + d
def rightI (a : Int) : Bool := decide (0 ≤ a ∧ a ≤ 4294967295)

/-- The twenty bytes, with c as the sum. -/
def headZ (t p s d n c : Int) : List Int := [69, 0] ++ be2 (20 + n) ++ [0, 0, 0, 0] ++ [t % 256, p % 256] ++ be2 c ++ be4 s ++ be4 d
def ipZ (t p s d n : Int) : List Int := headZ t p s d n (inetZ (headZ t p s d n 0))
theorem headZ_length (t p s d n c : Int) : (headZ t p s d n c).length = 20 := rfl
theorem ipZ_length (t p s d n : Int) : (ipZ t p s d n).length = 20 := rfl
theorem headZ_take (t p s d n c : Int) : (headZ t p s d n c).take 8 = [69, 0, (20 + n) / 256 % 256, (20 + n) % 256, 0, 0, 0, 0] := rfl
def okB (t p s d : Int) : Bool := decide (0 ≤ t ∧ t ≤ 255) && decide (0 ≤ p ∧ p ≤ 255) && rightI s && rightI d
/-- Which error Put tells. -/
def putE (t p s d : Int) (n : Nat) : Int := if okB t p s d = false then 1 else if 1024 < n then 6 else 0

def getT (zs : List Int) : Int := zs.getD 8 0
def getP (zs : List Int) : Int := zs.getD 9 0
def getS (zs : List Int) : Int := num4 (zs.getD 12 0) (zs.getD 13 0) (zs.getD 14 0) (zs.getD 15 0)
def getA (zs : List Int) : Int := num4 (zs.getD 16 0) (zs.getD 17 0) (zs.getD 18 0) (zs.getD 19 0)
/-- The head that the datagram of those bytes has. -/
def wantZ (zs : List Int) : List Int := ipZ (getT zs) (getP zs) (getS zs) (getA zs) ((zs.length : Int) - 20)
/-- Which error Get tells. -/
def getE (zs : List Int) : Int := if zs.length < 20 then 2 else if 1044 < zs.length then 3 else if zs.take 8 = (wantZ zs).take 8 then (if zs.take 20 = wantZ zs then 0 else 4) else 3

theorem be2_bd (n : Int) : ∀ z ∈ be2 n, 0 ≤ z ∧ z ≤ 255 := by intro z hz; simp [be2] at hz; omega
theorem be4_bd (n : Int) : ∀ z ∈ be4 n, 0 ≤ z ∧ z ≤ 255 := by intro z hz; simp [be4] at hz; omega
theorem headZ_bd (t p s d n c : Int) : ∀ z ∈ headZ t p s d n c, 0 ≤ z ∧ z ≤ 255 := by
  intro z hz
  simp only [headZ, be2, be4, List.cons_append, List.nil_append, List.mem_cons, List.not_mem_nil, or_false] at hz
  omega
theorem num4_bd (a b c d : Int) (ha : 0 ≤ a ∧ a ≤ 255) (hb : 0 ≤ b ∧ b ≤ 255) (hc : 0 ≤ c ∧ c ≤ 255) (hd : 0 ≤ d ∧ d ≤ 255) : 0 ≤ num4 a b c d ∧ num4 a b c d ≤ 4294967295 := by unfold num4; omega
theorem be4_num4 (a b c d : Int) (ha : 0 ≤ a ∧ a ≤ 255) (hb : 0 ≤ b ∧ b ≤ 255) (hc : 0 ≤ c ∧ c ≤ 255) (hd : 0 ≤ d ∧ d ≤ 255) : be4 (num4 a b c d) = [a, b, c, d] := by
  unfold be4 num4
  have h1 : (((a * 256 + b) * 256 + c) * 256 + d) / 16777216 % 256 = a := by omega
  have h2 : (((a * 256 + b) * 256 + c) * 256 + d) / 65536 % 256 = b := by omega
  have h3 : (((a * 256 + b) * 256 + c) * 256 + d) / 256 % 256 = c := by omega
  have h4 : (((a * 256 + b) * 256 + c) * 256 + d) % 256 = d := by omega
  rw [h1, h2, h3, h4]
theorem num4_be4 (n : Int) (h0 : 0 ≤ n) (h1 : n ≤ 4294967295) : num4 (n / 16777216 % 256) (n / 65536 % 256) (n / 256 % 256) (n % 256) = n := by unfold num4; omega
theorem putE_cases (t p s d : Int) (n : Nat) : putE t p s d n = 1 ∨ putE t p s d n = 6 ∨ putE t p s d n = 0 := by
  unfold putE
  split
  · simp
  · split <;> simp
end Go.Proofs.YtknpgpmckabmbaaDoor
