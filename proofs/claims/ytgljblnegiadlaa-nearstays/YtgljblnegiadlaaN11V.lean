/- Package near: who is where; whether a number is among others. -/
import Derived.Test.YtgljblnegiadlaaN11Q
import Derived.Test.YtgljblnegiadlaaN11G
import Derived.Deep.RegionWith
namespace Go.Proofs.Ytgljblnegiadlaa
open Go.RowKit Go.Sort Go.Lib
set_option linter.unusedVariables false
set_option linter.unusedSectionVars false
variable [Inhabited NearZ]

theorem with_at : ∀ (L : List NearZ) (x : NearZ) (i : Nat), i ≤ L.length → (∀ t, t < i → ix L t < x.id) → (∀ t, i ≤ t → t < L.length → x.id ≤ ix L t) →
    withZ L x = if i < L.length ∧ ix L i = x.id then L.set i x else L.take i ++ x :: L.drop i
  | [], x, i, hi, _, _ => by
    have : i = 0 := by simpa using hi
    subst this; simp [withZ]
  | y :: r, x, 0, _, _, h2 => by
    have h := h2 0 (Nat.le_refl _) (by simp)
    have e : ix (y :: r) 0 = y.id := rfl
    rw [e] at h ⊢
    unfold withZ
    rw [if_neg (by omega)]
    by_cases hy : y.id = x.id
    · rw [if_pos hy, if_pos ⟨by simp, hy⟩]; rfl
    · rw [if_neg hy, if_neg (fun h => hy h.2)]; rfl
  | y :: r, x, i + 1, hi, h1, h2 => by
    have e : ix (y :: r) 0 = y.id := rfl
    have es : ∀ t, ix (y :: r) (t + 1) = ix r t := fun t => rfl
    have h := h1 0 (by omega)
    rw [e] at h
    have ih := with_at r x i (by simpa using hi) (fun t ht => by have := h1 (t + 1) (by omega); rwa [es] at this) (fun t q1 q2 => by have := h2 (t + 1) (by omega) (by simp; omega); rwa [es] at this)
    unfold withZ
    rw [if_pos h, ih, es]
    by_cases hc : i < r.length ∧ ix r i = x.id
    · rw [if_pos hc, if_pos ⟨by simpa using hc.1, hc.2⟩]; rfl
    · rw [if_neg hc, if_neg (fun h => hc ⟨by simpa using h.1, h.2⟩)]; rfl
/-- Where an Id stands, or would stand. -/
def FindEnd (w : World) (L : List NearZ) (id : Int) (e : Ending) (w' : World) : Prop :=
  ∃ (i : Nat) (b : Bool), e = .returned (.tuple #[.int .i64 i, .bool b]) ∧ i ≤ L.length ∧ (∀ t, t < i → ix L t < id) ∧ (∀ t, i ≤ t → t < L.length → id ≤ ix L t) ∧ (b = true ↔ i < L.length ∧ ix L i = id) ∧ Below w.heap.size w w'
theorem below_grow (w : World) (q : Nat) (os : Array Obj) : Below w.heap.size w (grow (w.drewN q) os) :=
  ⟨rfl, rfl, rfl, by simp, fun k hk => by rw [heap_grow_old _ _ (by simpa using hk)]; rfl⟩
set_option maxHeartbeats 4000000 in
set_option maxRecDepth 20000 in
theorem bsearch_any (a : Option Addr) (n cap : Nat) (L : List NearZ) (id : Int) (w : World) (hn : n = L.length) (hL : Lies w a (cellsOf nearC L)) (hl : L.length ≤ 1000000) (hR : Rise L) :
    Calls Try.prog 29 #[.slice a n cap, .int .i64 id, .func (.func 27) #[] #[]] w (FindEnd w L id) := by
  have HNL : Hid (n = L.length) := hn
  have hn1 : n ≤ 1000000 := by omega
  have HL : Hid (Lies w a (cellsOf nearC L)) := hL
  have HR : Hid (Rise L) := hR
  clear hL hR hn hl
  go_enter Try.func29, Try.ntmps29
  go_wp2_with fail
  go_loopg [9, 10] n (fun gk vi vj wr => ∃ i j : Nat, vi = .int .i64 i ∧ vj = .int .i64 j ∧ i ≤ j ∧ j ≤ n ∧ j - i ≤ gk ∧ Hid (∀ t, t < i → ix L t < id) ∧ Hid (∀ t, j ≤ t → t < L.length → id ≤ ix L t) ∧ Hid (Below w.heap.size w wr))
  case atStart => exact ⟨0, n, rfl, rfl, by omega, Nat.le_refl _, by omega, fun t ht => absurd ht (by omega), fun t q1 q2 => absurd q2 (by have := HNL.out; omega), Below.refl _ _⟩
  case round =>
    obtain ⟨i, j, rfl, rfl, hij, hj, hgk, H1, H2, HB⟩ := hrel
    by_cases hlt : i < j
    · have hltz : (i : Int) < (j : Int) := by omega
      obtain ⟨h, hh⟩ : ∃ h : Nat, ((i : Int) + (j : Int)) / 2 = (h : Int) := ⟨(i + j) / 2, by omega⟩
      have h1 : i ≤ h := by omega
      have h2 : h < j := by omega
      have h3 : h < L.length := by have := HNL.out; omega
      have hz1 : (h : Int) < (n : Int) := by omega
      obtain ⟨b, off, rfl, c0, c1, c2, c3, c4, c5, c6⟩ := Nears.cells (HL.out.below HB.out) h h3
      have HIX : Hid (ix L h = L[h].id) := ix_at L h h3
      obtain ⟨x, hx⟩ : ∃ x, L[h] = x := ⟨_, rfl⟩
      rw [hx] at c0 c1 c2 c3 c4 c5 c6 HIX
      obtain ⟨v, hv⟩ : ∃ v, cmpZ x.id id = v := ⟨_, rfl⟩
      have HV : Hid (v < 0 ↔ x.id < id) := by
        show _ ↔ _
        rw [← hv]; rcases cmpZ_cases x.id id with ⟨k1, k2⟩ | ⟨k1, k2⟩ | ⟨k1, k2⟩ <;> rw [k1] <;> constructor <;> intro k <;> omega
      have CC := against_any x id v hv wr
      clear hx hv h3
      go_wp2_with fail
      refine CC.mono ?_
      rintro e w' ⟨rfl, q, os, rfl⟩
      have HB2 : Hid (Below w.heap.size w (grow (wr.drewN q) os)) := below_more HB.out (below_grow wr q os) HB.out.size
      clear CC c0 c1 c2 c3 c4 c5 c6 HB
      generalize grow (wr.drewN q) os = wq at *
      by_cases hneg : v < 0
      · have HX : Hid (∀ t, t < h + 1 → ix L t < id) := fun t ht => by
          have h3 : h < L.length := by have := HNL.out; omega
          have e1 := Rise.ix HR.out (s := t) (t := h) (by omega) h3
          have e2 := HV.out.1 hneg
          have e3 := HIX.out
          omega
        clear HV HIX
        go_wp2
        go_roundg (j - (h + 1))
        case measure => omega
        case rel => exact ⟨h + 1, j, by go_num, rfl, by omega, hj, Nat.le_refl _, HX, H2, HB2⟩
      · have HX : Hid (∀ t, h ≤ t → t < L.length → id ≤ ix L t) := fun t q1 q2 => by
          have e1 := Rise.ix HR.out (s := h) (t := t) q1 q2
          have e2 : ¬ x.id < id := fun k => hneg (HV.out.2 k)
          have e3 := HIX.out
          omega
        clear HV HIX
        go_wp2
        go_roundg (h - i)
        case measure => omega
        case rel => exact ⟨i, h, rfl, rfl, h1, by omega, Nat.le_refl _, H1, HX, HB2⟩
    · have hltz : ¬ (i : Int) < (j : Int) := by omega
      obtain rfl : i = j := by omega
      by_cases hin : i < n
      · have hinz : (i : Int) < (n : Int) := by omega
        have h3 : i < L.length := by have := HNL.out; omega
        obtain ⟨b, off, rfl, c0, c1, c2, c3, c4, c5, c6⟩ := Nears.cells (HL.out.below HB.out) i h3
        have HIX : Hid (ix L i = L[i].id) := ix_at L i h3
        obtain ⟨x, hx⟩ : ∃ x, L[i] = x := ⟨_, rfl⟩
        rw [hx] at c0 c1 c2 c3 c4 c5 c6 HIX
        obtain ⟨v, hv⟩ : ∃ v, cmpZ x.id id = v := ⟨_, rfl⟩
        obtain ⟨z, hz⟩ : ∃ z, (v == 0) = z := ⟨_, rfl⟩
        have HV : Hid (z = true ↔ x.id = id) := by
          show _ ↔ _
          rw [← hz, ← hv]; rcases cmpZ_cases x.id id with ⟨k1, k2⟩ | ⟨k1, k2⟩ | ⟨k1, k2⟩ <;> rw [k1] <;> simp <;> omega
        have CC := against_any x id v hv wr
        clear hx hv h3
        go_wp2_with fail
        refine CC.mono ?_
        rintro e w' ⟨rfl, q, os, rfl⟩
        have HE : Hid (i ≤ L.length ∧ (z = true ↔ i < L.length ∧ ix L i = id) ∧ Below w.heap.size w (grow (wr.drewN q) os)) := by
          have hnl := HNL.out
          refine ⟨by omega, ?_, below_more HB.out (below_grow wr q os) HB.out.size⟩
          rw [HV.out, HIX.out]
          exact ⟨fun k => ⟨by omega, k⟩, fun k => k.2⟩
        clear CC c0 c1 c2 c3 c4 c5 c6 HB HV HIX
        go_wp2
        go_ret2
        exact ⟨i, z, rfl, HE.out.1, H1.out, H2.out, HE.out.2.1, HE.out.2.2⟩
      · have hinz : ¬ (i : Int) < (n : Int) := by omega
        have HE : Hid (i ≤ L.length ∧ (false = true ↔ i < L.length ∧ ix L i = id)) := by
          have hnl := HNL.out
          exact ⟨by omega, ⟨fun k => absurd k (by simp), fun k => absurd k.1 (by omega)⟩⟩
        go_wp2
        go_ret2
        exact ⟨i, false, rfl, HE.out.1, H1.out, H2.out, HE.out.2, HB.out⟩
set_option maxHeartbeats 800000 in
theorem find_any (a : Option Addr) (n cap : Nat) (L : List NearZ) (id : Int) (w : World) (hn : n = L.length) (hL : Lies w a (cellsOf nearC L)) (hl : L.length ≤ 1000000) (hR : Rise L) :
    Calls Try.prog 22 #[.slice a n cap, .int .i64 id] w (FindEnd w L id) := by
  have CT := bsearch_any a n cap L id w hn hL hl hR
  clear hL hn hR
  go_enter Try.func22, Try.ntmps22
  go_wp2_with fail
  refine CT.mono ?_
  rintro e w2 ⟨i, b, rfl, h⟩
  have HE : Hid _ := h
  clear h CT
  go_wp2
  go_ret2
  exact ⟨i, b, rfl, HE.out⟩
set_option maxHeartbeats 800000 in
theorem index_any (a : Option Addr) (n cap : Nat) (zs : List Int) (x : Int) (w : World) (hn : n = zs.length) (hL : Lies w a (cellsOf intC zs)) (hl : zs.length ≤ 1000000) :
    Calls Try.prog 28 #[.slice a n cap, .int .i64 x] w fun e w' => ∃ k : Int, e = .returned (.int .i64 k) ∧ (decide (0 ≤ k) = zs.contains x) ∧ w' = w := by
  have HNL : Hid (n = zs.length) := hn
  have hn1 : n ≤ 1000000 := by omega
  have HL : Hid (Lies w a (cellsOf intC zs)) := hL
  clear hL hn hl
  go_enter Try.func28, Try.ntmps28
  go_wp2_with fail
  go_loopg [5, 8] n (fun gk v5 vi wr => ∃ i : Nat, vi = .int .i64 i ∧ i ≤ n ∧ n - i ≤ gk ∧ Hid (∀ y ∈ zs.take i, y ≠ x) ∧ wr = w)
  case atStart => exact ⟨0, rfl, by omega, by omega, by show ∀ y ∈ zs.take 0, y ≠ x; simp, rfl⟩
  case round =>
    obtain ⟨i, rfl, hin, hgk, HI, rfl⟩ := hrel
    by_cases hlt : i < n
    · have hltz : (i : Int) < (n : Int) := by omega
      have h3 : i < zs.length := by have := HNL.out; omega
      obtain ⟨b, off, rfl, c0⟩ := Ints.cells HL.out i h3
      obtain ⟨y, hy⟩ : ∃ y, zs[i] = y := ⟨_, rfl⟩
      rw [hy] at c0
      by_cases hxy : x = y
      · have HE : Hid (decide (0 ≤ (i : Int)) = zs.contains x) := by
          show _ = _
          have : x ∈ zs := by rw [hxy, ← hy]; exact List.getElem_mem h3
          simp [this]
        subst hxy
        clear hy HL
        go_wp2
        go_ret
        exact ⟨i, rfl, HE.out, rfl⟩
      · have HX : Hid (∀ y ∈ zs.take (i + 1), y ≠ x) := by
          show ∀ z ∈ zs.take (i + 1), z ≠ x
          intro z hz
          rw [List.take_add_one, List.getElem?_eq_getElem h3, hy] at hz
          rcases List.mem_append.1 hz with hz | hz
          · exact HI.out z hz
          · simp at hz; rw [hz]; exact fun h => hxy h.symm
        have hxb : (x == y) = false := by simpa using hxy
        clear hy
        go_wp2
        go_roundg (n - (i + 1))
        case measure => omega
        case rel => exact ⟨i + 1, by go_num, by omega, Nat.le_refl _, HX, rfl⟩
    · have hltz : ¬ (i : Int) < (n : Int) := by omega
      have HE : Hid (decide (0 ≤ (-1 : Int)) = zs.contains x) := by
        show _ = _
        have h := HI.out
        rw [List.take_of_length_le (by have := HNL.out; omega)] at h
        have : ¬ x ∈ zs := fun hx => h x hx rfl
        simp [this]
      clear HL
      go_wp2
      go_ret
      exact ⟨-1, rfl, by simpa using HE.out, rfl⟩
set_option maxHeartbeats 800000 in
theorem contains_any (a : Option Addr) (n cap : Nat) (zs : List Int) (x : Int) (w : World) (hn : n = zs.length) (hL : Lies w a (cellsOf intC zs)) (hl : zs.length ≤ 1000000) :
    Calls Try.prog 21 #[.slice a n cap, .int .i64 x] w fun e w' => e = .returned (.bool (zs.contains x)) ∧ w' = w := by
  have CT := index_any a n cap zs x w hn hL hl
  obtain ⟨B, hB⟩ : ∃ B, zs.contains x = B := ⟨_, rfl⟩
  rw [hB] at CT ⊢
  clear hL hn hB
  go_enter Try.func21, Try.ntmps21
  go_wp2_with fail
  refine CT.mono ?_
  rintro e w2 ⟨k, rfl, h, rfl⟩
  clear CT
  go_wp2
  go_ret
  exact ⟨ret_bool (by simp), rfl⟩
end Go.Proofs.Ytgljblnegiadlaa
