/- The document's Put: what is new. -/
import Derived.Test.YtmcemhkhgccojaaD8B
import Derived.Test.YtmcemhkhgccojaaS8W13
import Derived.Test.YtmcemhkhgccojaaOT
namespace Go.Proofs.Ytmcemhkhgccojaa
open Go.RowKit
set_option linter.unusedVariables false

def zeroR' : Row := (⟨none, 0, none, 0, none, 0⟩, ⟨⟨0, 0, 0, 0, 0, 0, 0⟩, 0, [], 0, [], []⟩)
/-- The object while its rows are shifted: those of L stand there, one of them twice. -/
structure Half (w : World) (N b : Nat) (most : Int) (v : Value) (L M : List Row) : Prop where
  obj : Var w b [.int .i64 most, v]
  own : w.ownsRow N 39 12 v M.length (cellsOf rowC M)
  ne : v.ownBlock ≠ some b
  held : ∀ r ∈ L, Held w r.1 r.2
  offg : ∀ r ∈ L, ∀ g, v.ownBlock = some g → Off g r
theorem Half.below {w w' : World} {N b : Nat} {most : Int} {v : Value} {L M : List Row} (h : Half w N b most v L M) (hb : Below w.heap.size w w') : Half w' N b most v L M :=
  ⟨h.obj.below hb h.obj.lt, own_below h.own hb, h.ne, fun r hr => (h.held r hr).below hb, h.offg⟩
theorem Half.turn {w w1 : World} {N b : Nat} {most : Int} {v : Value} {L M M' : List Row} (h : Half w N b most v L M) (hown : w1.ownsRow N 39 12 v M'.length (cellsOf rowC M')) (hg : w.grownBy w1 v.ownBlock) : Half w1 N b most v L M' := by
  have hT := Turned.grown (b := w.heap.size) hg
  exact ⟨h.obj.turned hT (by have := h.obj.lt; omega) (fun k hk e => h.ne (by rw [hk, e])), hown, h.ne, fun r hr => (h.held r hr).turned hT (off_old (h.held r hr) (Nat.le_refl _)) (h.offg r hr), h.offg⟩
/-- Shifted down to j. -/
def Shape (L M : List Row) (j : Nat) : Prop := M.length = L.length + 1 ∧ ∀ p (h : p < M.length), p ≠ L.length ∨ j < L.length → (p ≤ j → ∀ h' : p < L.length, M[p] = L[p]) ∧ (j < p → ∀ h' : p - 1 < L.length, M[p] = L[p - 1])
theorem Shape.step {L M : List Row} {j : Nat} (h : Shape L M (j + 1)) (hj : j < L.length) : Shape L (M.set (j + 1) (M[j]'(by rw [h.1]; omega))) j := by
  refine ⟨by rw [List.length_set]; exact h.1, fun p hp hpp => ?_⟩
  have hp' : p < M.length := by simpa using hp
  refine ⟨fun h1 h2 => ?_, fun h1 h2 => ?_⟩
  · rw [List.getElem_set_ne (by omega)]
    exact (h.2 p hp' (.inl (by omega))).1 (by omega) h2
  · by_cases e : p = j + 1
    · subst e
      rw [List.getElem_set_self]
      exact (h.2 j (by rw [h.1]; omega) (.inl (by omega))).1 (by omega) hj
    · rw [List.getElem_set_ne (by omega)]
      exact (h.2 p hp' (.inr (by omega))).2 (by omega) h2
theorem Shape.end {L M : List Row} {j : Nat} (h : Shape L M j) (hj : j ≤ L.length) (x : Row) : M.set j x = insL L j x := by
  unfold insL
  refine List.ext_getElem (by rw [List.length_set, h.1]; simp; omega) fun p h1 h2 => ?_
  have hp : p < M.length := by simpa using h1
  by_cases e : p = j
  · subst e
    rw [List.getElem_set_self, List.getElem_append_right (by rw [List.length_take]; omega)]
    simp [List.length_take, Nat.min_eq_left hj]
  · rw [List.getElem_set_ne (by omega)]
    rcases Nat.lt_or_gt_of_ne e with hlt | hgt
    · rw [List.getElem_append_left (by rw [List.length_take]; omega), List.getElem_take]
      exact (h.2 p hp (.inl (by omega))).1 (by omega) (by omega)
    · rw [List.getElem_append_right (by rw [List.length_take]; omega)]
      have hl := h.1
      have := (h.2 p hp (.inr (by omega))).2 hgt (by omega)
      rw [this]
      have e2 : p - (L.take j).length = (p - 1 - j) + 1 := by rw [List.length_take, Nat.min_eq_left hj]; omega
      simp only [e2, List.getElem_cons_succ, List.getElem_drop]
      congr 1; omega
theorem Shape.start (L : List Row) (x : Row) : Shape L (L ++ [x]) L.length :=
  ⟨by simp, fun p hp hpp => ⟨fun _ h' => List.getElem_append_left h', fun h1 h' => by simp at hp; omega⟩⟩
theorem Half.keeps {w : World} {N b : Nat} {most : Int} {v : Value} {L M : List Row} (h : Half w N b most v L M) (hN : N ≤ b)
    (hM : ∀ r ∈ M, Held w r.1 r.2 ∧ Nils r.1 ∧ Mid r.2 ∧ sealedB r.2 = true ∧ Off b r ∧ (∀ g, v.ownBlock = some g → Off g r)) (hR : Rising M) (hl : M.length ≤ 1000000) : Keeps w N b most v M :=
  ⟨h.obj, hN, h.own, h.ne, fun r hr => (hM r hr).1, fun r hr => (hM r hr).2.1, fun r hr => (hM r hr).2.2.1, fun r hr => (hM r hr).2.2.2.1, fun r hr => (hM r hr).2.2.2.2.1, fun r hr => (hM r hr).2.2.2.2.2, hR, hl⟩
theorem Half.at {w : World} {N b g c : Nat} {most : Int} {L M : List Row} {n : Nat} (hn : n = M.length) (h : Half w N b most (.slice (some ⟨g, 0, none⟩) n c) L M) (i : Nat) (hi : i < M.length) : RowAt w g (i * 12) M[i] := by
  subst hn
  exact own_row rfl h.own i hi
theorem own_cap {w : World} {N e size n g c : Nat} {xs : List Value} (h : w.ownsRow N e size (.slice (some ⟨g, 0, none⟩) n c) n xs) : n ≤ c := by
  rcases h.2 with ⟨h1, _⟩ | ⟨g, cap, cur, h1, _, _, h4, _⟩
  · cases h1
  · simp only [Value.slice.injEq] at h1
    obtain ⟨-, -, rfl⟩ := h1; exact h4
theorem own_some' {w : World} {N e size n : Nat} {v : Value} {xs : List Value} (h : w.ownsRow N e size v n xs) (hn : 0 < n) : ∃ g c, v = .slice (some ⟨g, 0, none⟩) n c := by
  rcases h.2 with ⟨_, h0⟩ | ⟨g, cap, cur, h1, _⟩
  · omega
  · exact ⟨g, cap, h1⟩
theorem Box.turned {w w' : World} {nb b : Nat} {o : Option Nat} {s : Seats} {l : LsaZ} (h : Box w nb s l) (ht : Turned b o w w') (hb : nb ≠ b) (ho : some nb ≠ o) : Box w' nb s l := by
  have hl := h.lt
  have hc : ∀ j, w'.cell? ⟨nb, j, none⟩ = w.cell? ⟨nb, j, none⟩ := fun j => ht.cell ⟨nb, j, none⟩ hl hb ho
  obtain ⟨c0, c1, c2, c3, c4, c5, c6, c7, c8, c9, c10, c11⟩ := h
  exact ⟨by rw [hc]; exact c0, by rw [hc]; exact c1, by rw [hc]; exact c2, by rw [hc]; exact c3, by rw [hc]; exact c4, by rw [hc]; exact c5, by rw [hc]; exact c6, by rw [hc]; exact c7, by rw [hc]; exact c8, by rw [hc]; exact c9, by rw [hc]; exact c10, by rw [hc]; exact c11⟩
theorem rows_snoc {w : World} {N : Nat} {v : Value} {L : List Row} {x : Row} (h : w.ownsRow N 39 12 v (L.length + 1) (cellsOf rowC L ++ rowC x)) : w.ownsRow N 39 12 v (L ++ [x]).length (cellsOf rowC (L ++ [x])) := by
  unfold cellsOf at *
  rw [List.flatMap_append, List.length_append]
  simpa using h
theorem half_start {w w1 : World} {N b : Nat} {most : Int} {lv v : Value} {L : List Row} (h : Keeps w N b most lv L) (ho : w1.ownsRow N 39 12 v (L.length + 1) (cellsOf rowC L ++ rowC zeroR')) (hg : w.grownBy w1 lv.ownBlock) (hh : Hence w lv v) :
    Half (w1.setCell ⟨b, 1, none⟩ v) N b most v L (L ++ [zeroR']) ∧ Turned b lv.ownBlock w (w1.setCell ⟨b, 1, none⟩ v) ∧ Var w1 b [.int .i64 most, lv] := by
  have hT := Turned.grown (b := w.heap.size) hg
  have hV : Var w1 b [.int .i64 most, lv] := h.obj.turned hT (by have := h.obj.lt; omega) (fun k hk e => h.ne (by rw [hk, e]))
  have hne := hence_ne hh h.ne h.obj.lt
  refine ⟨⟨hV.set 1 v, own_set (rows_snoc ho) hne 1 v, hne, fun r hr => ?_, hence_off hh h.held h.offg⟩, (Turned.grown hg).trans (Turned.set b _ w1 ⟨b, 1, none⟩ v (.inl rfl)), hV⟩
  exact ((h.held r hr).turned hT (off_old (h.held r hr) (Nat.le_refl _)) (h.offg r hr)).turned (Turned.set b none w1 ⟨b, 1, none⟩ v (.inl rfl)) (h.offb r hr) (fun k hk => by cases hk)
theorem Half.step {w : World} {N b g c q : Nat} {most : Int} {n : Nat} {L M : List Row} (h : Half w N b most (.slice (some ⟨g, 0, none⟩) n c) L M) (hn : n = M.length) (hq : q < M.length) (s' : Seats) (l : LsaZ) : Half (((((((((((((w.setCell ⟨g, q * 12, none⟩ (.int .i64 l.head.age)).setCell ⟨g, q * 12 + 1, none⟩ (.int .i64 l.head.kind)).setCell ⟨g, q * 12 + 2, none⟩ (.int .i64 l.head.id)).setCell ⟨g, q * 12 + 3, none⟩ (.int .i64 l.head.adv)).setCell ⟨g, q * 12 + 4, none⟩ (.int .i64 l.head.seq)).setCell ⟨g, q * 12 + 5, none⟩ (.int .i64 l.head.sum)).setCell ⟨g, q * 12 + 6, none⟩ (.int .i64 l.head.len)).setCell ⟨g, q * 12 + 7, none⟩ (.int .i64 l.flags)).setCell ⟨g, q * 12 + 8, none⟩ (.slice s'.la l.links.length s'.lc)).setCell ⟨g, q * 12 + 9, none⟩ (.int .i64 l.bits)).setCell ⟨g, q * 12 + 10, none⟩ (.slice s'.ra l.routers.length s'.rc)).setCell ⟨g, q * 12 + 11, none⟩ (.slice s'.va l.verts.length s'.vc))) N b most (.slice (some ⟨g, 0, none⟩) n c) L (M.set q (s', l)) ∧ w.grownBy (((((((((((((w.setCell ⟨g, q * 12, none⟩ (.int .i64 l.head.age)).setCell ⟨g, q * 12 + 1, none⟩ (.int .i64 l.head.kind)).setCell ⟨g, q * 12 + 2, none⟩ (.int .i64 l.head.id)).setCell ⟨g, q * 12 + 3, none⟩ (.int .i64 l.head.adv)).setCell ⟨g, q * 12 + 4, none⟩ (.int .i64 l.head.seq)).setCell ⟨g, q * 12 + 5, none⟩ (.int .i64 l.head.sum)).setCell ⟨g, q * 12 + 6, none⟩ (.int .i64 l.head.len)).setCell ⟨g, q * 12 + 7, none⟩ (.int .i64 l.flags)).setCell ⟨g, q * 12 + 8, none⟩ (.slice s'.la l.links.length s'.lc)).setCell ⟨g, q * 12 + 9, none⟩ (.int .i64 l.bits)).setCell ⟨g, q * 12 + 10, none⟩ (.slice s'.ra l.routers.length s'.rc)).setCell ⟨g, q * 12 + 11, none⟩ (.slice s'.va l.verts.length s'.vc))) (some g) := by
  subst hn
  obtain ⟨o1, o2⟩ := own_put12 (p := q) h.own hq s' l
  exact ⟨h.turn (by rw [List.length_set]; exact o1) o2, o2⟩
set_option maxHeartbeats 6400000 in
set_option maxRecDepth 20000 in
theorem dput_ins (N b : Nat) (most : Int) (lv : Value) (L : List Row) (s : Seats) (l : LsaZ) (w : World) (h : Keeps w N b most lv L) (hH : Held w s l) (hf : Mid l) (hN : Nils s) (hob : Off b (s, l)) (hog : ∀ k, lv.ownBlock = some k → Off k (s, l)) (hNw : N ≤ w.heap.size) (hs : sealedB l = true) (ht : thereB L (keyZ l.head) = false) (hfu : (L.length : Int) < most) (hfl : L.length + 1 ≤ 1000000) :
    Calls Try.prog 12 #[.pointer (some ⟨b, 0, none⟩), .agg (lsaA s l)] w (PutOn w N b most lv fun s' => insL L (posZ L (keyZ l.head)) (s', l)) := by
  have HB : Hid (Below w.heap.size w (w.alloc (.cells (lsaA s l) 39))) := below_new' _ _
  have HK : Hid (Keeps w N b most lv L) := h
  have HX : Hid (Box (w.alloc (.cells (lsaA s l) 39)) w.heap.size s l) := box_new w s l
  have HH : Hid (Held w s l) := hH
  have HMI : Hid (Mid l) := hf
  have HNI : Hid (Nils s) := hN
  have HOFF : Hid (Off b (s, l) ∧ ∀ k, lv.ownBlock = some k → Off k (s, l)) := ⟨hob, hog⟩
  have HNw : Hid (N ≤ w.heap.size) := hNw
  clear hob hog
  have HFL : Hid (L.length + 1 ≤ 1000000) := hfl
  clear hNw hfl
  have HSE : Hid (sealedB l = true) := hs
  have HTH : Hid (thereB L (keyZ l.head) = false) := ht
  have HAT : Hid (atZ L (keyZ l.head) = -1) := by show _ = _; unfold atZ; rw [ht]; rfl
  have HFU : Hid ((L.length : Int) < most) := hfu
  obtain ⟨a, c, hlv, -, hLc, -, -, -⟩ := h.lies
  have HLV : Hid (lv = .slice a L.length c) := hlv
  have HLC : Hid (L.length ≤ c) := hLc
  have hlen : L.length ≤ 1000000 := h.len
  have hlc : (L.length : Int) ≤ (c : Int) := by omega
  clear hs ht hfu hLc hlv
  clear h hH hf hN
  have HRI : Hid (∀ s', Rising (insL L (posZ L (keyZ l.head)) (s', l))) := fun s' => rising_ins HK.out.rising (s', l) HTH.out
  obtain ⟨ki, hki, hkz0, hkz1, hkz2⟩ := info_parts info_lsa
  have HI : Hid (Try.prog.info? 39 = some ki) := hki
  have H0 : Hid (_ = _) := hkz0
  have H1 : Hid (_ = _) := hkz1
  have H2 : Hid (_ = _) := hkz2
  clear hki hkz0 hkz1 hkz2
  go_enter Try.func12, Try.ntmps12
  go_upto_region 1 with fail
  generalize w.alloc (.cells (lsaA s l) 39) = W at *
  obtain ⟨c0, c1, c2, c3, c4, c5, c6, c7, c8, c9, c10, c11⟩ := HX.out
  go_wp2_with fail
  refine (dSealed_any s l _ (HH.out.below HB.out) HMI.out HNI.out).mono ?_
  rintro e w1 ⟨rfl, hb⟩
  rw [HSE.out]
  have HX1 : Hid (Box w1 w.heap.size s l) := HX.out.below hb HX.out.lt
  replace HB : Hid (Below w.heap.size w w1) := below_more HB.out hb HB.out.size
  clear hb HX c0 c1 c2 c3 c4 c5 c6 c7 c8 c9 c10 c11
  obtain ⟨c0, c1, c2, c3, c4, c5, c6, c7, c8, c9, c10, c11⟩ := HX1.out
  go_wp2_with fail
  refine (dkeyOf_any l.head _).mono ?_
  rintro e w2 ⟨rfl, hb⟩
  have HX2 : Hid (Box w2 w.heap.size s l) := HX1.out.below hb HX1.out.lt
  replace HB : Hid (Below w.heap.size w w2) := below_more HB.out hb HB.out.size
  clear hb HX1 c0 c1 c2 c3 c4 c5 c6 c7 c8 c9 c10 c11
  have HV : Hid (Var (w2.alloc (.cells #[.int .i64 l.head.kind, .int .i64 l.head.id, .int .i64 l.head.adv] 41)) w2.heap.size [.int .i64 l.head.kind, .int .i64 l.head.id, .int .i64 l.head.adv]) := var_new w2 [.int .i64 l.head.kind, .int .i64 l.head.id, .int .i64 l.head.adv] _
  have HX3 : Hid (Box (w2.alloc (.cells #[.int .i64 l.head.kind, .int .i64 l.head.id, .int .i64 l.head.adv] 41)) w.heap.size s l) := HX2.out.below (below_new' _ _) HX2.out.lt
  replace HB : Hid (Below w.heap.size w (w2.alloc (.cells #[.int .i64 l.head.kind, .int .i64 l.head.id, .int .i64 l.head.adv] 41))) := HB.out.alloc HB.out.size _
  clear HX2
  go_upto_region 4 with fail
  obtain ⟨kb, hkb⟩ : ∃ kb, w2.heap.size = kb := ⟨_, rfl⟩
  rw [hkb] at HV ⊢
  generalize w2.alloc (.cells #[.int .i64 l.head.kind, .int .i64 l.head.id, .int .i64 l.head.adv] 41) = W3 at *
  clear hkb
  have d0 := HV.out.cell 0 rfl
  have d1 := HV.out.cell 1 rfl
  have d2 := HV.out.cell 2 rfl
  have CA := at_any N b most _ L (keyZ l.head) W3 (HK.out.below HB.out)
  rw [HAT.out] at CA
  go_wp2_with fail
  refine CA.mono ?_
  rintro e w3 ⟨rfl, hb⟩
  replace HV : Hid (Var w3 kb [.int .i64 l.head.kind, .int .i64 l.head.id, .int .i64 l.head.adv]) := HV.out.below hb HV.out.lt
  replace HX3 : Hid (Box w3 w.heap.size s l) := HX3.out.below hb HX3.out.lt
  replace HB : Hid (Below w.heap.size w w3) := below_more HB.out hb HB.out.size
  clear hb CA d0 d1 d2
  have b0 := (HK.out.below HB.out).obj.cell 0 rfl
  have b1 := (HK.out.below HB.out).obj.cell 1 rfl
  rw [HLV.out] at b1
  have hfu := HFU.out
  go_upto_region 10 with fail
  go_quiet (fail)
  have HX4 : Hid (Box (w3.drewN nq) w.heap.size s l) := HX3.out.below (below_dr (Below.refl _ _) nq) HX3.out.lt
  replace HV : Hid (Var (w3.drewN nq) kb [.int .i64 l.head.kind, .int .i64 l.head.id, .int .i64 l.head.adv]) := HV.out.below (below_dr (Below.refl _ _) nq) HV.out.lt
  replace HB : Hid (Below w.heap.size w (w3.drewN nq)) := below_dr HB.out nq
  clear HX3 b0 b1
  generalize w3.drewN nq = w4 at *
  obtain ⟨k, hk⟩ : ∃ k, keyZ l.head = k := ⟨_, rfl⟩
  have HH2 : Hid (∀ X, Turned b lv.ownBlock w X → Held X.drew s l) := fun X hX => (HH.out.turned (r := (s, l)) hX HOFF.out.1 HOFF.out.2).below (Below.refl _ _).drew
  have HKK : Hid (keyZ l.head = k) := hk
  rw [show l.head.kind = k.kind by rw [← hk]; rfl, show l.head.id = k.id by rw [← hk]; rfl, show l.head.adv = k.adv by rw [← hk]; rfl] at HV
  obtain ⟨p, hpz⟩ : ∃ p, posZ L k = p := ⟨_, rfl⟩
  have HPZ : Hid (posZ L k = p) := hpz
  have hpl : p ≤ L.length := by rw [← hpz]; exact posZ_le L k
  have HLO : Hid (∀ i (h : i < L.length), i < p → decide (agZ (rk L[i]) k < 0) = true) := by rw [← hpz]; exact fun i h hi => decide_eq_true (posZ_lo L k i h hi)
  have HHI : Hid (∀ h : p < L.length, decide (agZ (rk L[p]) k < 0) = false) := by subst hpz; exact fun h => decide_eq_false (posZ_at L k h)
  rw [hk, hpz] at HRI
  clear hk hpz
  go_wp2_with fail
  clear hfu
  go_loopw [7] (fun t wr => ∃ i : Nat, i ≤ p ∧ t = .int .i64 i ∧ Hid (Below w4.heap.size w4 wr)) (fun t _ => p - (intOf t).toNat)
  case atStart => exact ⟨0, by omega, rfl, Below.refl _ _⟩
  case round =>
    obtain ⟨i, hi, rfl, HW⟩ := hrel
    have HBW : Hid (Below w.heap.size w wr) := below_more HB.out HW.out HB.out.size
    have b1 := (HK.out.below HBW.out).obj.cell 1 rfl
    by_cases hil : i < L.length
    · have hiI : (i : Int) < (L.length : Int) := by omega
      obtain ⟨gr, c', hE, -, -, -, hrow, -⟩ := (HK.out.below HBW.out).at i hil
      have HE : Hid (lv = .slice (some ⟨gr, 0, none⟩) L.length c') := hE
      rw [hE] at b1
      have hlc' : L.length ≤ c' := by
        have e := HLV.out
        rw [hE] at e
        simp only [Value.slice.injEq, true_and] at e
        have := HLC.out; omega
      clear hE
      obtain ⟨r, hr⟩ : ∃ r, L[i] = r := ⟨_, rfl⟩
      have HRr : Hid (L[i] = r) := hr
      rw [hr] at hrow
      have HRow : Hid (RowAt wr gr (i * 12) r) := hrow
      have keepS : Hid (∀ X, Below wr.heap.size wr X → X.cell? ⟨b, 1, none⟩ = some (.slice (some ⟨gr, 0, none⟩) L.length c') ∧ X.cell? ⟨gr, i * 12, none⟩ = some (.int .i64 r.2.head.age) ∧ X.cell? ⟨gr, i * 12 + 1, none⟩ = some (.int .i64 r.2.head.kind) ∧ X.cell? ⟨gr, i * 12 + 2, none⟩ = some (.int .i64 r.2.head.id) ∧ X.cell? ⟨gr, i * 12 + 3, none⟩ = some (.int .i64 r.2.head.adv) ∧ X.cell? ⟨gr, i * 12 + 4, none⟩ = some (.int .i64 r.2.head.seq) ∧ X.cell? ⟨gr, i * 12 + 5, none⟩ = some (.int .i64 r.2.head.sum) ∧ X.cell? ⟨gr, i * 12 + 6, none⟩ = some (.int .i64 r.2.head.len) ∧ X.cell? ⟨kb, 0, none⟩ = some (.int .i64 k.kind) ∧ X.cell? ⟨kb, 1, none⟩ = some (.int .i64 k.id) ∧ X.cell? ⟨kb, 2, none⟩ = some (.int .i64 k.adv) ∧ Hid (Below wr.heap.size wr X)) := by
        intro X hX
        have hX4 := HW.out.trans (hX.mono HW.out.size)
        have hk := (HK.out.below (below_more HB.out hX4 HB.out.size)).obj
        obtain ⟨c0, c1, c2, c3, c4, c5, c6, -, -, -, -, -⟩ := HRow.out.below hX HRow.out.lt
        have hv := HV.out.below hX4 HV.out.lt
        exact ⟨by rw [← HE.out]; exact hk.cell 1 rfl, c0, c1, c2, c3, c4, c5, c6, hv.cell 0 rfl, hv.cell 1 rfl, hv.cell 2 rfl, hX⟩
      have hS0 := keepS.out _ (Below.refl _ _).drew
      have CK : Hid (∀ X, Below wr.heap.size wr X → Calls Try.prog 27 #[.agg (headA r.2.head)] X fun e w' => e = .returned (.agg (keyV (rk r))) ∧ Hid (Below wr.heap.size wr w')) := fun X hX => (dkeyOf_any r.2.head X).mono fun e w' h => ⟨h.1, hX.trans (h.2.mono hX.size)⟩
      obtain ⟨d, hd⟩ : ∃ d, decide (agZ (rk r) k < 0) = d := ⟨_, rfl⟩
      have CL : Hid (∀ X, Below wr.heap.size wr X → Calls Try.prog 39 #[.agg (keyV (rk r)), .agg (keyV k)] X fun e w' => e = .returned (.bool d) ∧ Hid (Below wr.heap.size wr w')) := fun X hX => (less_any (rk r) k X).mono fun e w' h => ⟨by rw [h.1, hd], hX.trans (h.2.mono hX.size)⟩
      have HDD : Hid (decide (agZ (rk r) k < 0) = d) := hd
      clear hrow hr hd
      go_upto_region 13 with fail
      first | go_region_held3 (fun X => X.cell? ⟨b, 1, none⟩ = some (.slice (some ⟨gr, 0, none⟩) L.length c') ∧ X.cell? ⟨gr, i * 12, none⟩ = some (.int .i64 r.2.head.age) ∧ X.cell? ⟨gr, i * 12 + 1, none⟩ = some (.int .i64 r.2.head.kind) ∧ X.cell? ⟨gr, i * 12 + 2, none⟩ = some (.int .i64 r.2.head.id) ∧ X.cell? ⟨gr, i * 12 + 3, none⟩ = some (.int .i64 r.2.head.adv) ∧ X.cell? ⟨gr, i * 12 + 4, none⟩ = some (.int .i64 r.2.head.seq) ∧ X.cell? ⟨gr, i * 12 + 5, none⟩ = some (.int .i64 r.2.head.sum) ∧ X.cell? ⟨gr, i * 12 + 6, none⟩ = some (.int .i64 r.2.head.len) ∧ X.cell? ⟨kb, 0, none⟩ = some (.int .i64 k.kind) ∧ X.cell? ⟨kb, 1, none⟩ = some (.int .i64 k.id) ∧ X.cell? ⟨kb, 2, none⟩ = some (.int .i64 k.adv) ∧ Hid (Below wr.heap.size wr X)) (with_reducible first | exact hS0 | exact keepS.out _ hk1.out | exact keepS.out _ hk2.out | assumption | fail) (first | (go_at_call 27; refine (CK.out _ (by go_split_ands; exact Hid.out (by assumption))).mono ?_; rintro e v1 ⟨rfl, hk1⟩) | (go_at_call 39; refine (CL.out _ (by go_split_ands; exact Hid.out (by assumption))).mono ?_; rintro e w5 ⟨rfl, hk2⟩)) | fail
      rename_i hSx
      have HBX : Hid (Below wr.heap.size wr w5) := hk2.out
      clear hSx hS0 keepS CK CL hk1 hk2 b1 HRow
      cases d
      · have hip : i = p := by
          rcases Nat.lt_or_ge i p with h | h
          · have := HLO.out i hil h
            rw [HRr.out, HDD.out] at this
            cases this
          · omega
        subst hip
        have HB5 : Hid (Below w.heap.size w w5) := below_more HBW.out HBX.out HBW.out.size
        have HW5 : Hid (Below w4.heap.size w4 w5) := HW.out.trans (HBX.out.mono HW.out.size)
        clear HW HBW HBX HDD HRr HLO HHI hil hiI hi
        have hK5 := HK.out.below HB5.out
        have b1 := hK5.obj.cell 1 rfl
        rw [HE.out] at b1
        have HZ6 : Hid (Below w5.heap.size w5 (w5.alloc (.cells #[.int .i64 0, .int .i64 0, .int .i64 0, .int .i64 0, .int .i64 0, .int .i64 0, .int .i64 0, .int .i64 0, .slice none 0 0, .int .i64 0, .slice none 0 0, .slice none 0 0] 39))) := below_new' _ _
        have HKZ : Hid (Keeps (w5.alloc (.cells #[.int .i64 0, .int .i64 0, .int .i64 0, .int .i64 0, .int .i64 0, .int .i64 0, .int .i64 0, .int .i64 0, .slice none 0 0, .int .i64 0, .slice none 0 0, .slice none 0 0] 39)) N b most lv L) := hK5.below HZ6.out
        have HOW : Hid ((w5.alloc (.cells #[.int .i64 0, .int .i64 0, .int .i64 0, .int .i64 0, .int .i64 0, .int .i64 0, .int .i64 0, .int .i64 0, .slice none 0 0, .int .i64 0, .slice none 0 0, .slice none 0 0] 39)).ownsRow N 39 12 (.slice (some ⟨gr, 0, none⟩) L.length c') L.length (cellsOf rowC L)) := by
          show World.ownsRow _ _ _ _ _ _ _
          rw [← HE.out]; exact HKZ.out.own
        have HLI : Hid (Lies (w5.alloc (.cells #[.int .i64 0, .int .i64 0, .int .i64 0, .int .i64 0, .int .i64 0, .int .i64 0, .int .i64 0, .int .i64 0, .slice none 0 0, .int .i64 0, .slice none 0 0, .slice none 0 0] 39)) (some ⟨w5.heap.size, 0, none⟩) (rowC zeroR')) := lies_new w5 (rowC zeroR') _
        have hNs : N ≤ (w5.alloc (.cells #[.int .i64 0, .int .i64 0, .int .i64 0, .int .i64 0, .int .i64 0, .int .i64 0, .int .i64 0, .int .i64 0, .slice none 0 0, .int .i64 0, .slice none 0 0, .slice none 0 0] 39)).heap.size := Nat.le_trans HNw.out (Nat.le_trans HB5.out.size HZ6.out.size)
        have hfl := HFL.out
        clear hK5
        go_wp2_with (at_builtin; go_must (refine wpList_append_hence (w5.alloc (.cells #[.int .i64 0, .int .i64 0, .int .i64 0, .int .i64 0, .int .i64 0, .int .i64 0, .int .i64 0, .int .i64 0, .slice none 0 0, .int .i64 0, .slice none 0 0, .slice none 0 0] 39)) rfl _ _ 53 rfl N 39 ki _ 12 144 Try.underlying53 HI.out H0.out H1.out H2.out rfl (by decide) (.slice (some ⟨gr, 0, none⟩) L.length c') _ _ rfl HOW.out _ 1 _ (rowC zeroR') rfl rfl HLI.out.at (rowC_one zeroR') (by unfold maxLen; omega) (by omega) hNs ?_))
        intro v' w6 ho6 hg6 hh6
        rw [← HE.out] at hg6 hh6
        obtain ⟨g2, cp, rfl⟩ := own_some' ho6 (by omega)
        obtain ⟨hHA, hTA, hVA⟩ := half_start HKZ.out ho6 hg6 hh6
        have b1' := hVA.cell 1 rfl
        have f1 := hVA.frozen 1
        have HA : Hid (Half (w6.setCell ⟨b, 1, none⟩ (.slice (some ⟨g2, 0, none⟩) (L.length + 1) cp)) N b most (.slice (some ⟨g2, 0, none⟩) (L.length + 1) cp) L (L ++ [zeroR'])) := hHA
        have HT : Hid (Turned b lv.ownBlock w (w6.setCell ⟨b, 1, none⟩ (.slice (some ⟨g2, 0, none⟩) (L.length + 1) cp))) := (Turned.of b _ (below_more HB5.out HZ6.out HB5.out.size)).trans hTA
        have HHN : Hid (Hence w lv (.slice (some ⟨g2, 0, none⟩) (L.length + 1) cp)) := hence_below hh6 (Nat.le_trans HB5.out.size HZ6.out.size)
        have HX6 : Hid (Box (w6.setCell ⟨b, 1, none⟩ (.slice (some ⟨g2, 0, none⟩) (L.length + 1) cp)) w.heap.size s l) := by
          have h1 := HX4.out.below (below_more (HW5.out) HZ6.out HW5.out.size) HX4.out.lt
          have h2 := HK.out.obj.lt
          have h3 : ∀ k, lv.ownBlock = some k → k < w.heap.size := HK.out.own_lt
          exact h1.turned hTA (by omega) (fun e => by have := h3 _ e.symm; omega)
        have HG2 : Hid (w.heap.size ≠ g2) := by
          show _ ≠ _
          intro e
          rcases hh6 with h | h
          · have := HK.out.own_lt g2 (by rw [← h]; rfl)
            omega
          · have h1 := h g2 rfl
            have h2 := HX4.out.lt
            have h3 := HW5.out.size
            have h4 := HZ6.out.size
            omega
        clear hHA hTA hVA ho6 hg6 hh6 HOW HLI b1 HZ6 HKZ
        go_upto_region 16 with fail
        clear b1' f1
        generalize w6.setCell ⟨b, 1, none⟩ (.slice (some ⟨g2, 0, none⟩) (L.length + 1) cp) = Z at *
        have b1 := HA.out.obj.cell 1 rfl
        have hpl' : i ≤ L.length := hpl
        go_wp2_with fail
        clear b1
        go_loopw [8] (fun t wv => ∃ j : Nat, i ≤ j ∧ j ≤ L.length ∧ t = .int .i64 (j : Int) ∧ Hid (∃ M, Half wv N b most (.slice (some ⟨g2, 0, none⟩) (L.length + 1) cp) L M ∧ Shape L M j) ∧ Hid (Turned b lv.ownBlock w wv) ∧ Hid (Box wv w.heap.size s l)) (fun t _ => (intOf t).toNat)
        case atStart => exact ⟨L.length, hpl', Nat.le_refl _, by go_num, ⟨_, HA.out, Shape.start _ _⟩, HT.out, HX6.out⟩
        case round =>
          clear HA HT HX6
          obtain ⟨j, hj1, hj2, rfl, HM, HT, HX⟩ := hrel
          obtain ⟨M, hM1, hM2⟩ := HM.out
          have HM1 : Hid (Half wr N b most (.slice (some ⟨g2, 0, none⟩) (L.length + 1) cp) L M) := hM1
          have HM2 : Hid (Shape L M j) := hM2
          have hml : M.length = L.length + 1 := hM2.1
          have b1 := hM1.obj.cell 1 rfl
          have hcp : L.length + 1 ≤ cp := by have h := hM1.own; rw [hml] at h; exact own_cap h
          clear hM1 hM2 HM
          by_cases hji : i < j
          · obtain ⟨q, rfl⟩ : ∃ q, j = q + 1 := ⟨j - 1, by omega⟩
            have hqM : q < M.length := by omega
            have hqM1 : q + 1 < M.length := by omega
            obtain ⟨r, hr⟩ : ∃ r, M[q] = r := ⟨_, rfl⟩
            have HR : Hid (M[q] = r) := hr
            have hrow := HM1.out.at hml.symm q hqM
            rw [hr] at hrow
            obtain ⟨c0, c1, c2, c3, c4, c5, c6, c7, c8, c9, c10, c11⟩ := hrow
            obtain ⟨y0, y1, y2, y3, y4, y5, y6, y7, y8, y9, y10, y11⟩ := HM1.out.at hml.symm (q + 1) hqM1
            have hfz : ∀ j, wr.frozen? ⟨g2, j, none⟩ = false := fun j => by have h := HM1.out.own; rw [hml] at h; exact World.ownsRow.frozenAt h j
            have hqa : ((q + 1 : Nat) : Int) - 1 = (q : Int) := by omega
            have hqb : IntKind.i64.wrap (((q + 1 : Nat) : Int) - 1) = (q : Int) := by rw [IntKind.wrap_i64]; omega
            have hqc : (q : Int) < (L.length : Int) + 1 := by omega
            have hqd : ((q + 1 : Nat) : Int) < (L.length : Int) + 1 := by omega
            have hqI : (i : Int) < ((q + 1 : Nat) : Int) := by omega
            clear hr
            go_upto_region 19 with fail
            go_region
            clear c0 c1 c2 c3 c4 c5 c6 c7 c8 c9 c10 c11 y0 y1 y2 y3 y4 y5 y6 y7 y8 y9 y10 y11 b1 hfz hqb hqc hqd hqI
            obtain ⟨hs1, hs2⟩ := HM1.out.step hml.symm hqM1 r.1 r.2
            have HM3 : Hid (Half ((((((((((((wr.setCell ⟨g2, (q + 1) * 12, none⟩ (.int .i64 r.2.head.age)).setCell ⟨g2, (q + 1) * 12 + 1, none⟩ (.int .i64 r.2.head.kind)).setCell ⟨g2, (q + 1) * 12 + 2, none⟩ (.int .i64 r.2.head.id)).setCell ⟨g2, (q + 1) * 12 + 3, none⟩ (.int .i64 r.2.head.adv)).setCell ⟨g2, (q + 1) * 12 + 4, none⟩ (.int .i64 r.2.head.seq)).setCell ⟨g2, (q + 1) * 12 + 5, none⟩ (.int .i64 r.2.head.sum)).setCell ⟨g2, (q + 1) * 12 + 6, none⟩ (.int .i64 r.2.head.len)).setCell ⟨g2, (q + 1) * 12 + 7, none⟩ (.int .i64 r.2.flags)).setCell ⟨g2, (q + 1) * 12 + 8, none⟩ (.slice r.1.la r.2.links.length r.1.lc)).setCell ⟨g2, (q + 1) * 12 + 9, none⟩ (.int .i64 r.2.bits)).setCell ⟨g2, (q + 1) * 12 + 10, none⟩ (.slice r.1.ra r.2.routers.length r.1.rc)).setCell ⟨g2, (q + 1) * 12 + 11, none⟩ (.slice r.1.va r.2.verts.length r.1.vc)) N b most (.slice (some ⟨g2, 0, none⟩) (L.length + 1) cp) L (M.set (q + 1) r)) := hs1
            have HG3 : Hid (wr.grownBy ((((((((((((wr.setCell ⟨g2, (q + 1) * 12, none⟩ (.int .i64 r.2.head.age)).setCell ⟨g2, (q + 1) * 12 + 1, none⟩ (.int .i64 r.2.head.kind)).setCell ⟨g2, (q + 1) * 12 + 2, none⟩ (.int .i64 r.2.head.id)).setCell ⟨g2, (q + 1) * 12 + 3, none⟩ (.int .i64 r.2.head.adv)).setCell ⟨g2, (q + 1) * 12 + 4, none⟩ (.int .i64 r.2.head.seq)).setCell ⟨g2, (q + 1) * 12 + 5, none⟩ (.int .i64 r.2.head.sum)).setCell ⟨g2, (q + 1) * 12 + 6, none⟩ (.int .i64 r.2.head.len)).setCell ⟨g2, (q + 1) * 12 + 7, none⟩ (.int .i64 r.2.flags)).setCell ⟨g2, (q + 1) * 12 + 8, none⟩ (.slice r.1.la r.2.links.length r.1.lc)).setCell ⟨g2, (q + 1) * 12 + 9, none⟩ (.int .i64 r.2.bits)).setCell ⟨g2, (q + 1) * 12 + 10, none⟩ (.slice r.1.ra r.2.routers.length r.1.rc)).setCell ⟨g2, (q + 1) * 12 + 11, none⟩ (.slice r.1.va r.2.verts.length r.1.vc)) (some g2)) := hs2
            clear hs1 hs2
            generalize ((((((((((((wr.setCell ⟨g2, (q + 1) * 12, none⟩ (.int .i64 r.2.head.age)).setCell ⟨g2, (q + 1) * 12 + 1, none⟩ (.int .i64 r.2.head.kind)).setCell ⟨g2, (q + 1) * 12 + 2, none⟩ (.int .i64 r.2.head.id)).setCell ⟨g2, (q + 1) * 12 + 3, none⟩ (.int .i64 r.2.head.adv)).setCell ⟨g2, (q + 1) * 12 + 4, none⟩ (.int .i64 r.2.head.seq)).setCell ⟨g2, (q + 1) * 12 + 5, none⟩ (.int .i64 r.2.head.sum)).setCell ⟨g2, (q + 1) * 12 + 6, none⟩ (.int .i64 r.2.head.len)).setCell ⟨g2, (q + 1) * 12 + 7, none⟩ (.int .i64 r.2.flags)).setCell ⟨g2, (q + 1) * 12 + 8, none⟩ (.slice r.1.la r.2.links.length r.1.lc)).setCell ⟨g2, (q + 1) * 12 + 9, none⟩ (.int .i64 r.2.bits)).setCell ⟨g2, (q + 1) * 12 + 10, none⟩ (.slice r.1.ra r.2.routers.length r.1.rc)).setCell ⟨g2, (q + 1) * 12 + 11, none⟩ (.slice r.1.va r.2.verts.length r.1.vc)) = Z3 at *
            have hdr : Below Z3.heap.size Z3 Z3.drew := (Below.refl _ _).drew
            have hT3 : Turned b lv.ownBlock w Z3.drew := (HT.out.more HHN.out (Turned.grown (b := b) HG3.out)).trans (Turned.of b _ hdr)
            have HT3 : Hid (Turned b lv.ownBlock w Z3.drew) := hT3
            have HX3' : Hid (Box Z3.drew w.heap.size s l) := by
              have hg2 := HG2.out
              exact (HX.out.turned (Turned.grown (b := wr.heap.size) HG3.out) (by have := HX.out.lt; omega) (by simpa using hg2)).below hdr (by have h := HX.out.lt; have := HG3.out.size; omega)
            have HMN : Hid (∃ M, Half Z3.drew N b most (.slice (some ⟨g2, 0, none⟩) (L.length + 1) cp) L M ∧ Shape L M q) := by
              refine ⟨M.set (q + 1) r, HM3.out.below hdr, ?_⟩
              have := HM2.out.step (by omega)
              rwa [HR.out] at this
            clear HM3 HG3 hT3 hdr HX HT HM1 HM2 HR
            go_wp2
            go_roundw
            case rel => exact ⟨q, by omega, by omega, by go_num, HMN, HT3, HX3'⟩
            case measure => simp [intOf]
          · obtain rfl : j = i := by omega
            have hnl : ¬ ((j : Int) < (j : Int)) := by omega
            have hjM : j < M.length := by omega
            have hjM' : (j : Int) < (L.length : Int) + 1 := by omega
            obtain ⟨c0, c1, c2, c3, c4, c5, c6, c7, c8, c9, c10, c11⟩ := HX.out
            have hws := HT.out.size
            have CC : Calls _ _ _ _ _ := (dCopy_any s l wr.drew (HH2.out wr HT.out) HMI.out HNI.out).mono (R' := fun e w' => ∃ s', e = .returned (.agg (lsaA s' l)) ∧ Hid (Held w' s' l ∧ Nils s' ∧ Below wr.heap.size wr w' ∧ Far wr.heap.size s'.la ∧ Far wr.heap.size s'.ra ∧ Far wr.heap.size s'.va) ∧ w'.cell? ⟨b, 1, none⟩ = some (.slice (some ⟨g2, 0, none⟩) (L.length + 1) cp) ∧ RowAt w' g2 (j * 12) M[j] ∧ ∀ i, w'.frozen? ⟨g2, i, none⟩ = false) fun e w' ⟨s', h1, h2, h3, h4, h5, h6, h7⟩ => by
              have hX : Below wr.heap.size wr w' := ((Below.refl _ _).drew).trans h4
              have hK := HM1.out.below hX
              exact ⟨s', h1, ⟨h2, h3, hX, h5, h6, h7⟩, hK.obj.cell 1 rfl, hK.at hml.symm j hjM, fun i => by have h := hK.own; rw [hml] at h; exact World.ownsRow.frozenAt h i⟩
            clear HX
            go_upto_region 20 with fail
            go_region_with (first
              | (go_at_call 26; refine CC.mono ?_; rintro e wz ⟨s', rfl, hcl, b1', ⟨y0, y1, y2, y3, y4, y5, y6, y7, y8, y9, y10, y11⟩, hfz⟩))
            all_goals
              clear y0 y1 y2 y3 y4 y5 y6 y7 y8 y9 y10 y11 hfz b1 b1' CC c0 c1 c2 c3 c4 c5 c6 c7 c8 c9 c10 c11
              go_wp2
              go_ret
              obtain ⟨q1, q2, q3, q4, q5, q6⟩ := hcl.out
              have hH6 := HM1.out.below q3
              obtain ⟨o1, o2⟩ := hH6.step hml.symm hjM s' l
              have hKw := HK.out
              have hbw := hKw.obj.lt
              have hT9 : Turned b lv.ownBlock w _ := (HT.out.trans (Turned.of b _ q3)).more HHN.out (Turned.grown (b := b) o2)
              rw [HM2.out.end hj2 (s', l)] at o1
              refine ⟨(.slice (some ⟨g2, 0, none⟩) (L.length + 1) cp), s', rfl, ?_, hT9, HHN.out, ?_⟩
              · show Keeps _ _ _ _ _ (insL L (posZ L (keyZ l.head)) (s', l))
                rw [HKK.out, HPZ.out]
                refine o1.keeps hKw.lo ?_ (HRI.out s') (by rw [insL_len]; exact HFL.out)
                intro x hx
                have hTb := Turned.grown (b := wz.heap.size) o2
                rcases insL_mem hx with rfl | hx
                · have hof : ∀ k, k < wr.heap.size → Off k (s', l) := fun k hk => off_far q4 q5 q6 hk
                  have hg2 : g2 < wr.heap.size := by have h := HM1.out.own; rw [hml] at h; exact (World.ownsRow.lt h g2 rfl).2
                  refine ⟨q1.turned (r := (s', l)) hTb (off_old (r := (s', l)) q1 (Nat.le_refl _)) (fun k hk => by cases hk; exact hof g2 hg2), q2, HMI.out, HSE.out, hof b (by omega), fun k hk => hof k ?_⟩
                  simp only [Value.ownBlock, Option.some.injEq] at hk
                  omega
                · exact ⟨o1.held x hx, hKw.nils x hx, hKw.mid x hx, hKw.shut x hx, hKw.offb x hx, o1.offg x hx⟩
              · exact ⟨q4.mono hws, q5.mono hws, q6.mono hws⟩
      · have hip : i + 1 ≤ p := by
          rcases Nat.lt_or_ge i p with h | h
          · omega
          · have e : i = p := by omega
            subst e
            have := HHI.out hil
            rw [HRr.out, HDD.out] at this
            cases this
        have HW9 : Hid (Below w4.heap.size w4 w5) := HW.out.trans (HBX.out.mono HW.out.size)
        go_wp2
        go_roundw
        case rel => exact ⟨i + 1, hip, by go_num, HW9⟩
        case measure => simp [intOf]; omega
    · have hip : i = p := by omega
      subst hip
      have hnl : ¬ ((i : Int) < (L.length : Int)) := by omega
      have HE : Hid (lv = .slice a L.length c) := HLV.out
      rw [HE.out] at b1
      go_upto_region 13 with fail
      go_quiet (fail)
      have HB5 : Hid (Below w.heap.size w (wr.drewN nq)) := below_dr HBW.out nq
      have HW5 : Hid (Below w4.heap.size w4 (wr.drewN nq)) := below_dr HW.out nq
      clear b1 HW HBW HLO HHI hi hnl
      generalize wr.drewN nq = w5 at *
      have hK5 := HK.out.below HB5.out
      have b1 := hK5.obj.cell 1 rfl
      rw [HE.out] at b1
      have HZ6 : Hid (Below w5.heap.size w5 (w5.alloc (.cells #[.int .i64 0, .int .i64 0, .int .i64 0, .int .i64 0, .int .i64 0, .int .i64 0, .int .i64 0, .int .i64 0, .slice none 0 0, .int .i64 0, .slice none 0 0, .slice none 0 0] 39))) := below_new' _ _
      have HKZ : Hid (Keeps (w5.alloc (.cells #[.int .i64 0, .int .i64 0, .int .i64 0, .int .i64 0, .int .i64 0, .int .i64 0, .int .i64 0, .int .i64 0, .slice none 0 0, .int .i64 0, .slice none 0 0, .slice none 0 0] 39)) N b most lv L) := hK5.below HZ6.out
      have HOW : Hid ((w5.alloc (.cells #[.int .i64 0, .int .i64 0, .int .i64 0, .int .i64 0, .int .i64 0, .int .i64 0, .int .i64 0, .int .i64 0, .slice none 0 0, .int .i64 0, .slice none 0 0, .slice none 0 0] 39)).ownsRow N 39 12 (.slice a L.length c) L.length (cellsOf rowC L)) := by
        show World.ownsRow _ _ _ _ _ _ _
        rw [← HE.out]; exact HKZ.out.own
      have HLI : Hid (Lies (w5.alloc (.cells #[.int .i64 0, .int .i64 0, .int .i64 0, .int .i64 0, .int .i64 0, .int .i64 0, .int .i64 0, .int .i64 0, .slice none 0 0, .int .i64 0, .slice none 0 0, .slice none 0 0] 39)) (some ⟨w5.heap.size, 0, none⟩) (rowC zeroR')) := lies_new w5 (rowC zeroR') _
      have hNs : N ≤ (w5.alloc (.cells #[.int .i64 0, .int .i64 0, .int .i64 0, .int .i64 0, .int .i64 0, .int .i64 0, .int .i64 0, .int .i64 0, .slice none 0 0, .int .i64 0, .slice none 0 0, .slice none 0 0] 39)).heap.size := Nat.le_trans HNw.out (Nat.le_trans HB5.out.size HZ6.out.size)
      have hfl := HFL.out
      clear hK5
      go_wp2_with (at_builtin; go_must (refine wpList_append_hence (w5.alloc (.cells #[.int .i64 0, .int .i64 0, .int .i64 0, .int .i64 0, .int .i64 0, .int .i64 0, .int .i64 0, .int .i64 0, .slice none 0 0, .int .i64 0, .slice none 0 0, .slice none 0 0] 39)) rfl _ _ 53 rfl N 39 ki _ 12 144 Try.underlying53 HI.out H0.out H1.out H2.out rfl (by decide) (.slice a L.length c) _ _ rfl HOW.out _ 1 _ (rowC zeroR') rfl rfl HLI.out.at (rowC_one zeroR') (by unfold maxLen; omega) (by omega) hNs ?_))
      intro v' w6 ho6 hg6 hh6
      rw [← HE.out] at hg6 hh6
      obtain ⟨g2, cp, rfl⟩ := own_some' ho6 (by omega)
      obtain ⟨hHA, hTA, hVA⟩ := half_start HKZ.out ho6 hg6 hh6
      have b1' := hVA.cell 1 rfl
      have f1 := hVA.frozen 1
      have HA : Hid (Half (w6.setCell ⟨b, 1, none⟩ (.slice (some ⟨g2, 0, none⟩) (L.length + 1) cp)) N b most (.slice (some ⟨g2, 0, none⟩) (L.length + 1) cp) L (L ++ [zeroR'])) := hHA
      have HT : Hid (Turned b lv.ownBlock w (w6.setCell ⟨b, 1, none⟩ (.slice (some ⟨g2, 0, none⟩) (L.length + 1) cp))) := (Turned.of b _ (below_more HB5.out HZ6.out HB5.out.size)).trans hTA
      have HHN : Hid (Hence w lv (.slice (some ⟨g2, 0, none⟩) (L.length + 1) cp)) := hence_below hh6 (Nat.le_trans HB5.out.size HZ6.out.size)
      have HX6 : Hid (Box (w6.setCell ⟨b, 1, none⟩ (.slice (some ⟨g2, 0, none⟩) (L.length + 1) cp)) w.heap.size s l) := by
        have h1 := HX4.out.below (below_more (HW5.out) HZ6.out HW5.out.size) HX4.out.lt
        have h2 := HK.out.obj.lt
        have h3 : ∀ k, lv.ownBlock = some k → k < w.heap.size := HK.out.own_lt
        exact h1.turned hTA (by omega) (fun e => by have := h3 _ e.symm; omega)
      have HG2 : Hid (w.heap.size ≠ g2) := by
        show _ ≠ _
        intro e
        rcases hh6 with h | h
        · have := HK.out.own_lt g2 (by rw [← h]; rfl)
          omega
        · have h1 := h g2 rfl
          have h2 := HX4.out.lt
          have h3 := HW5.out.size
          have h4 := HZ6.out.size
          omega
      clear hHA hTA hVA ho6 hg6 hh6 HOW HLI b1 HZ6 HKZ
      go_upto_region 16 with fail
      clear b1' f1
      generalize w6.setCell ⟨b, 1, none⟩ (.slice (some ⟨g2, 0, none⟩) (L.length + 1) cp) = Z at *
      have b1 := HA.out.obj.cell 1 rfl
      have hpl' : i ≤ L.length := hpl
      go_wp2_with fail
      clear b1
      go_loopw [8] (fun t wv => ∃ j : Nat, i ≤ j ∧ j ≤ L.length ∧ t = .int .i64 (j : Int) ∧ Hid (∃ M, Half wv N b most (.slice (some ⟨g2, 0, none⟩) (L.length + 1) cp) L M ∧ Shape L M j) ∧ Hid (Turned b lv.ownBlock w wv) ∧ Hid (Box wv w.heap.size s l)) (fun t _ => (intOf t).toNat)
      case atStart => exact ⟨L.length, hpl', Nat.le_refl _, by go_num, ⟨_, HA.out, Shape.start _ _⟩, HT.out, HX6.out⟩
      case round =>
        clear HA HT HX6
        obtain ⟨j, hj1, hj2, rfl, HM, HT, HX⟩ := hrel
        obtain ⟨M, hM1, hM2⟩ := HM.out
        have HM1 : Hid (Half wr N b most (.slice (some ⟨g2, 0, none⟩) (L.length + 1) cp) L M) := hM1
        have HM2 : Hid (Shape L M j) := hM2
        have hml : M.length = L.length + 1 := hM2.1
        have b1 := hM1.obj.cell 1 rfl
        have hcp : L.length + 1 ≤ cp := by have h := hM1.own; rw [hml] at h; exact own_cap h
        clear hM1 hM2 HM
        by_cases hji : i < j
        · exact absurd hji (by omega)
        · obtain rfl : j = i := by omega
          have hnl : ¬ ((j : Int) < (j : Int)) := by omega
          have hjM : j < M.length := by omega
          have hjM' : (j : Int) < (L.length : Int) + 1 := by omega
          obtain ⟨c0, c1, c2, c3, c4, c5, c6, c7, c8, c9, c10, c11⟩ := HX.out
          have hws := HT.out.size
          have CC : Calls _ _ _ _ _ := (dCopy_any s l wr.drew (HH2.out wr HT.out) HMI.out HNI.out).mono (R' := fun e w' => ∃ s', e = .returned (.agg (lsaA s' l)) ∧ Hid (Held w' s' l ∧ Nils s' ∧ Below wr.heap.size wr w' ∧ Far wr.heap.size s'.la ∧ Far wr.heap.size s'.ra ∧ Far wr.heap.size s'.va) ∧ w'.cell? ⟨b, 1, none⟩ = some (.slice (some ⟨g2, 0, none⟩) (L.length + 1) cp) ∧ RowAt w' g2 (j * 12) M[j] ∧ ∀ i, w'.frozen? ⟨g2, i, none⟩ = false) fun e w' ⟨s', h1, h2, h3, h4, h5, h6, h7⟩ => by
            have hX : Below wr.heap.size wr w' := ((Below.refl _ _).drew).trans h4
            have hK := HM1.out.below hX
            exact ⟨s', h1, ⟨h2, h3, hX, h5, h6, h7⟩, hK.obj.cell 1 rfl, hK.at hml.symm j hjM, fun i => by have h := hK.own; rw [hml] at h; exact World.ownsRow.frozenAt h i⟩
          clear HX
          go_upto_region 20 with fail
          go_region_with (first
            | (go_at_call 26; refine CC.mono ?_; rintro e wz ⟨s', rfl, hcl, b1', ⟨y0, y1, y2, y3, y4, y5, y6, y7, y8, y9, y10, y11⟩, hfz⟩))
          all_goals
            clear y0 y1 y2 y3 y4 y5 y6 y7 y8 y9 y10 y11 hfz b1 b1' CC c0 c1 c2 c3 c4 c5 c6 c7 c8 c9 c10 c11
            go_wp2
            go_ret
            obtain ⟨q1, q2, q3, q4, q5, q6⟩ := hcl.out
            have hH6 := HM1.out.below q3
            obtain ⟨o1, o2⟩ := hH6.step hml.symm hjM s' l
            have hKw := HK.out
            have hbw := hKw.obj.lt
            have hT9 : Turned b lv.ownBlock w _ := (HT.out.trans (Turned.of b _ q3)).more HHN.out (Turned.grown (b := b) o2)
            rw [HM2.out.end hj2 (s', l)] at o1
            refine ⟨(.slice (some ⟨g2, 0, none⟩) (L.length + 1) cp), s', rfl, ?_, hT9, HHN.out, ?_⟩
            · show Keeps _ _ _ _ _ (insL L (posZ L (keyZ l.head)) (s', l))
              rw [HKK.out, HPZ.out]
              refine o1.keeps hKw.lo ?_ (HRI.out s') (by rw [insL_len]; exact HFL.out)
              intro x hx
              have hTb := Turned.grown (b := wz.heap.size) o2
              rcases insL_mem hx with rfl | hx
              · have hof : ∀ k, k < wr.heap.size → Off k (s', l) := fun k hk => off_far q4 q5 q6 hk
                have hg2 : g2 < wr.heap.size := by have h := HM1.out.own; rw [hml] at h; exact (World.ownsRow.lt h g2 rfl).2
                refine ⟨q1.turned (r := (s', l)) hTb (off_old (r := (s', l)) q1 (Nat.le_refl _)) (fun k hk => by cases hk; exact hof g2 hg2), q2, HMI.out, HSE.out, hof b (by omega), fun k hk => hof k ?_⟩
                simp only [Value.ownBlock, Option.some.injEq] at hk
                omega
              · exact ⟨o1.held x hx, hKw.nils x hx, hKw.mid x hx, hKw.shut x hx, hKw.offb x hx, o1.offg x hx⟩
            · exact ⟨q4.mono hws, q5.mono hws, q6.mono hws⟩
end Go.Proofs.Ytmcemhkhgccojaa
