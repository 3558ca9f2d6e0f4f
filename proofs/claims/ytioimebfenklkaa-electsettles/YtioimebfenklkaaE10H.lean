/- The document's round, and its Elect. -/
import Derived.Test.YtioimebfenklkaaE10G
namespace Go.Proofs.Ytioimebfenklkaa
open Go.RowKit
set_option linter.unusedVariables false

def RRoundEnd (w : World) (L : List CandZ) (e : Ending) (w' : World) : Prop := ∃ dr bdr, e = .returned (.tuple #[.int .i64 dr, .int .i64 bdr]) ∧ RoundIs L dr bdr ∧ Below w.heap.size w w'
set_option maxHeartbeats 3200000 in
theorem rround_any (a : Option Addr) (n cap : Nat) (l : List CandZ) (w : World) (hn : n = l.length) (hL : Lies w a (cellsOf candC l)) (hl : l.length ≤ 1000000) :
    Calls Try.prog 17 #[.slice a n cap] w (RRoundEnd w l) := by
  have HL : Hid (∀ W, Below w.heap.size w W → Lies W a (cellsOf candC l)) := fun W h => hL.below h
  have HNn : Hid (n = l.length) := hn
  have HN : Hid (l.length ≤ 1000000) := hl
  clear hn hL hl
  go_enter Try.func17, Try.ntmps17
  go_wp2_with fail
  refine (rbest_2false a n cap l w HNn.out (HL.out _ (Below.refl _ _)) HN.out).mono ?_
  rintro e w1 ⟨b, rfl, hb2, hb⟩
  have HQ1 : Hid (AddrIs (qB 2 false) l b) := hb2
  have HB1 : Hid (Below w.heap.size w w1) := hb
  clear hb2 hb
  go_wp2_with fail
  refine (rsome_any a n cap l 2 w1 HNn.out (HL.out _ HB1.out) HN.out).mono ?_
  rintro e w2 ⟨rfl, hb⟩
  have HB2 : Hid (Below w.heap.size w w2) := below_more HB1.out hb HB1.out.size
  clear hb HB1
  obtain ⟨q, hq⟩ : ∃ q, l.any (smB 2) = q := ⟨_, rfl⟩
  rw [hq]
  have HSM : Hid (l.any (smB 2) = q) := hq
  clear hq
  have hrest : ∀ (c : Int) (W : World), Below w.heap.size w W → Hid ((l.any (smB 2) = true ∧ AddrIs (qB 2 false) l c) ∨ (l.any (smB 2) = false ∧ AddrIs (qB 1 true) l c)) → True := fun _ _ _ _ => trivial
  clear hrest
  cases q with
  | true =>
    have HF : Hid ((l.any (smB 2) = true ∧ AddrIs (qB 2 false) l b) ∨ (l.any (smB 2) = false ∧ AddrIs (qB 1 true) l b)) := .inl ⟨HSM.out, HQ1.out⟩
    clear HSM HQ1
    go_wp2_with fail
    refine (rbest_1false a n cap l w2 HNn.out (HL.out _ HB2.out) HN.out).mono ?_
    rintro e w3 ⟨d, rfl, hd2, hb⟩
    have HQ3 : Hid (AddrIs (qB 1 false) l d) := hd2
    have HB3 : Hid (Below w.heap.size w w3) := below_more HB2.out hb HB2.out.size
    clear hd2 hb HB2
    go_wp2_with fail
    refine (rsome_any a n cap l 1 w3 HNn.out (HL.out _ HB3.out) HN.out).mono ?_
    rintro e w4 ⟨rfl, hb⟩
    have HB4 : Hid (Below w.heap.size w w4) := below_more HB3.out hb HB3.out.size
    clear hb HB3
    obtain ⟨r, hr⟩ : ∃ r, l.any (smB 1) = r := ⟨_, rfl⟩
    rw [hr]
    have HSR : Hid (l.any (smB 1) = r) := hr
    clear hr
    cases r with
    | true =>
      go_wp2
      go_ret2
      exact ⟨d, b, rfl, ⟨HF.out, .inl ⟨HSR.out, HQ3.out⟩⟩, HB4.out⟩
    | false =>
      go_wp2
      go_ret2
      exact ⟨b, b, rfl, ⟨HF.out, .inr ⟨HSR.out, rfl⟩⟩, HB4.out⟩
  | false =>
    go_wp2_with fail
    refine (rbest_1true a n cap l w2 HNn.out (HL.out _ HB2.out) HN.out).mono ?_
    rintro e w2' ⟨b', rfl, hb2, hb⟩
    have HF : Hid ((l.any (smB 2) = true ∧ AddrIs (qB 2 false) l b') ∨ (l.any (smB 2) = false ∧ AddrIs (qB 1 true) l b')) := .inr ⟨HSM.out, hb2⟩
    have HB2' : Hid (Below w.heap.size w w2') := below_more HB2.out hb HB2.out.size
    clear HSM HQ1 hb2 hb HB2
    go_wp2_with fail
    refine (rbest_1false a n cap l w2' HNn.out (HL.out _ HB2'.out) HN.out).mono ?_
    rintro e w3 ⟨d, rfl, hd2, hb⟩
    have HQ3 : Hid (AddrIs (qB 1 false) l d) := hd2
    have HB3 : Hid (Below w.heap.size w w3) := below_more HB2'.out hb HB2'.out.size
    clear hd2 hb HB2'
    go_wp2_with fail
    refine (rsome_any a n cap l 1 w3 HNn.out (HL.out _ HB3.out) HN.out).mono ?_
    rintro e w4 ⟨rfl, hb⟩
    have HB4 : Hid (Below w.heap.size w w4) := below_more HB3.out hb HB3.out.size
    clear hb HB3
    obtain ⟨r, hr⟩ : ∃ r, l.any (smB 1) = r := ⟨_, rfl⟩
    rw [hr]
    have HSR : Hid (l.any (smB 1) = r) := hr
    clear hr
    cases r with
    | true =>
      go_wp2
      go_ret2
      exact ⟨d, b', rfl, ⟨HF.out, .inl ⟨HSR.out, HQ3.out⟩⟩, HB4.out⟩
    | false =>
      go_wp2
      go_ret2
      exact ⟨b', b', rfl, ⟨HF.out, .inr ⟨HSR.out, rfl⟩⟩, HB4.out⟩
/-- Three cells of one candidate of an own list, written: its Prio, Dr, Bdr (here: two of them). -/
theorem cands_set (L : List CandZ) (p k : Nat) (hp : p < L.length) (hk : k < 5) (c : CandZ) (v : Value) (hv : (candC L[p]).set k v = candC c) : (cellsOf candC L).set (p * 5 + k) v = cellsOf candC (L.set p c) := by
  induction L generalizing p with
  | nil => simp at hp
  | cons x L ih =>
    simp only [cellsOf, List.flatMap_cons]
    cases p with
    | zero =>
      rw [Nat.zero_mul, Nat.zero_add, List.set_append_left _ _ (by rw [candC_length]; exact hk)]
      simp only [List.set_cons_zero, List.flatMap_cons]
      rw [← hv]; rfl
    | succ p =>
      rw [List.set_append_right _ _ (by rw [candC_length]; omega), candC_length, show (p + 1) * 5 + k - 5 = p * 5 + k by omega]
      simp only [List.set_cons_succ, List.flatMap_cons]
      have := ih p (by simpa using hp) (by simpa using hv)
      unfold cellsOf at this
      rw [this]
theorem OwnC.put {w : World} {base g c n : Nat} {L : List CandZ} (h : OwnC w base (.slice (some ⟨g, 0, none⟩) n c) L) (p k : Nat) (hp : p < L.length) (hk : k < 5) (z : CandZ) (v : Value) (hv : (candC L[p]).set k v = candC z) :
    OwnC (w.setCell ⟨g, p * 5 + k, none⟩ v) base (.slice (some ⟨g, 0, none⟩) n c) (L.set p z) ∧ w.frozen? ⟨g, p * 5 + k, none⟩ = false ∧ base ≤ g := by
  obtain ⟨a', c', e, -⟩ := OwnC.more h
  cases e
  refine ⟨?_, World.ownsRow.frozenAt h _, (World.ownsRow.lt h g rfl).1⟩
  have := (World.ownsRow.stored h (p * 5 + k) v).1
  unfold OwnC
  rw [List.length_set, ← cands_set L p k hp hk z v hv]
  exact this
def saidIs (self : CandZ) (l : List CandZ) : List CandZ := l ++ [self]
theorem said_mem (self : CandZ) (l : List CandZ) (x : CandZ) : x ∈ l ++ [self] ↔ x ∈ self :: l := by simp [or_comm]
set_option maxHeartbeats 3200000 in
theorem relect_any (self : CandZ) (a : Option Addr) (n cap : Nat) (l : List CandZ) (w : World) (hn : n = l.length) (hL : Lies w a (cellsOf candC l)) (hnil : a = none → cap = 0) (hl : l.length ≤ 1000) :
    Calls Try.prog 11 #[.agg (candA self), .slice a n cap] w (ElectEnd w (electZ self l)) := by
  have HX : Hid (Var (w.alloc (.cells (candA self) 23)) w.heap.size (candC self)) := var_new w (candC self) _
  have HB : Hid (Below w.heap.size w (w.alloc (.cells (candA self) 23))) := below_new' _ _
  have HL : Hid (Lies w a (cellsOf candC l)) := hL
  have HN : Hid (l.length ≤ 1000) := hl
  have HNIL : Hid (a = none → cap = 0) := hnil
  subst hn
  clear hL hl hnil
  have HEZ : Hid (∀ dr bdr, dr = drZ (heardZ self l) → bdr = bdrZ (heardZ self l) → electZ self l = if turnedZ self dr bdr then (drZ (heardZ (saysZ self dr bdr) l), bdrZ (heardZ (saysZ self dr bdr) l)) else (dr, bdr)) := fun dr bdr h1 h2 => by subst h1 h2; rfl
  unfold ElectEnd
  generalize electZ self l = E at *
  go_enter Try.func11, Try.ntmps11
  go_upto_region 1 with fail
  generalize w.alloc (.cells (candA self) 23) = W at *
  have hlen := HN.out
  go_wp2_with (at_builtin; go_must (refine wp_copy_cands W _ rfl rfl _ _ rfl rfl a _ _ l rfl rfl (HL.out.below HB.out) HNIL.out (by omega) ?_))
  intro v1 w1 ho1 hb1
  have HO1 : Hid (OwnC w1 W.heap.size v1 l) := ho1
  have HB1 : Hid (Below w.heap.size w w1) := below_more HB.out hb1 HB.out.size
  have HX1 : Hid (Var w1 w.heap.size (candC self)) := HX.out.below hb1 HX.out.lt
  have hWlt : w.heap.size + 1 ≤ W.heap.size := HX.out.lt
  have HW1 : Hid (W.heap.size ≤ w1.heap.size) := hb1.size
  clear ho1 hb1 HX HB
  have d0 := HX1.out.cell 0 rfl
  have d1 := HX1.out.cell 1 rfl
  have d2 := HX1.out.cell 2 rfl
  have d3 := HX1.out.cell 3 rfl
  have d4 := HX1.out.cell 4 rfl
  have hw1 := HW1.out
  go_wp2_with (at_builtin; go_must (refine wp_append_cand w1 _ rfl rfl _ _ rfl W.heap.size v1 _ rfl HO1.out self rfl (by omega) hw1 ?_))
  intro v2 w2 ho2 hb2
  have HB2 : Hid (Below w.heap.size w w2) := HB1.out.trans (hb2.mono (by omega))
  have HX2 : Hid (Var w2 w.heap.size (candC self)) := HX1.out.below hb2 (by omega)
  have HW2 : Hid (W.heap.size ≤ w2.heap.size) := Nat.le_trans hw1 hb2.size
  obtain ⟨a2, c2, e2, hl2, -, -, hg2⟩ := OwnC.more ho2
  subst e2
  have HO2 : Hid (OwnC w2 W.heap.size (.slice a2 (l ++ [self]).length c2) (l ++ [self])) := ho2
  obtain ⟨g, rfl⟩ : ∃ g, a2 = some ⟨g, 0, none⟩ := by
    rcases hl2 with h | ⟨b, off, h, -⟩
    · have := cands_len (l ++ [self]); rw [h] at this; simp at this
    · obtain ⟨g, e, -⟩ := hg2 _ h
      exact ⟨g, by rw [h, e]⟩
  clear ho2 hb2 hl2 hg2 d0 d1 d2 d3 d4 HX1 HB1 HO1 HW1
  have hll : (l ++ [self]).length = l.length + 1 := by simp
  rw [hll] at HO2
  rw [hll]
  have hlies2 : Lies w2 (some ⟨g, 0, none⟩) (cellsOf candC (l ++ [self])) := by
    obtain ⟨a', c', e, h, -⟩ := OwnC.more HO2.out
    rw [hll] at e
    cases e
    exact h
  have CR := rround_any (some ⟨g, 0, none⟩) (l.length + 1) c2 (l ++ [self]) w2 hll.symm hlies2 (by simp; omega)
  clear hlies2
  go_wp2_with fail
  refine CR.mono ?_
  rintro e w3 ⟨dr, bdr, rfl, hri, hb3⟩
  obtain ⟨hdr, hbdr⟩ := round_one (said_mem self l) hri
  have HEE : Hid (E = if turnedZ self dr bdr then (drZ (heardZ (saysZ self dr bdr) l), bdrZ (heardZ (saysZ self dr bdr) l)) else (dr, bdr)) := HEZ.out dr bdr hdr hbdr
  have HB3 : Hid (Below w.heap.size w w3) := below_more HB2.out hb3 HB2.out.size
  have HX3 : Hid (Var w3 w.heap.size (candC self)) := HX2.out.below hb3 HX2.out.lt
  have HO3 : Hid (OwnC w3 W.heap.size (.slice (some ⟨g, 0, none⟩) (l.length + 1) c2) (l ++ [self])) := HO2.out.below hb3
  clear hri hdr hbdr hb3 HB2 HX2 HO2 CR HEZ
  have d0 := HX3.out.cell 0 rfl
  have d1 := HX3.out.cell 1 rfl
  have d2 := HX3.out.cell 2 rfl
  have d3 := HX3.out.cell 3 rfl
  have d4 := HX3.out.cell 4 rfl
  have HTT : Hid (turnedZ self dr bdr = (((dr == self.addr) != (self.dr == self.addr)) || ((bdr == self.addr) != (self.bdr == self.addr)))) := rfl
  obtain ⟨q1, hq1⟩ : ∃ q, (dr == self.addr) = q := ⟨_, rfl⟩
  obtain ⟨q2, hq2⟩ : ∃ q, (self.dr == self.addr) = q := ⟨_, rfl⟩
  obtain ⟨q3, hq3⟩ : ∃ q, (bdr == self.addr) = q := ⟨_, rfl⟩
  obtain ⟨q4, hq4⟩ : ∃ q, (self.bdr == self.addr) = q := ⟨_, rfl⟩
  rw [hq1, hq2, hq3, hq4] at HTT
  obtain ⟨T, hT⟩ : ∃ T, turnedZ self dr bdr = T := ⟨_, rfl⟩
  rw [hT] at HTT HEE
  clear hT
  obtain ⟨P, hP⟩ : ∃ P, (q1 == q2) = P := ⟨_, rfl⟩
  obtain ⟨Q, hQ⟩ : ∃ Q, (q3 == q4) = Q := ⟨_, rfl⟩
  have HTP : Hid (T = !(P && Q)) := by
    show _ = _
    rw [HTT.out, ← hP, ← hQ]
    cases q1 <;> cases q2 <;> cases q3 <;> cases q4 <;> rfl
  clear HTT
  by_cases hPQ : P = true ∧ Q = true
  · obtain ⟨rfl, rfl⟩ := hPQ
    have HE2 : Hid (E = (dr, bdr)) := by
      show _ = _
      have := HEE.out
      rw [HTP.out] at this
      simpa using this
    clear HEE HTP
    go_wp2
    go_ret2
    exact ⟨by rw [HE2.out]; rfl, HB3.out⟩
  have HE2 : Hid (E = (drZ (heardZ (saysZ self dr bdr) l), bdrZ (heardZ (saysZ self dr bdr) l))) := by
    show _ = _
    have h := HEE.out
    rw [HTP.out] at h
    cases P <;> cases Q <;> simp_all
  have hgu : (P && Q) = false := by cases P <;> cases Q <;> simp_all
  clear HEE HTP hPQ
  have hgb : W.heap.size ≤ g ∧ g < w3.heap.size := World.ownsRow.lt HO3.out g rfl
  have hse : (l ++ [self])[l.length]'(by simp) = self := by simp
  obtain ⟨-, -, -, k3, k4⟩ := OwnC.cells HO3.out l.length (by simp)
  rw [hse] at k3 k4
  obtain ⟨hO4, f3, -⟩ := OwnC.put HO3.out l.length 3 (by simp) (by omega) ({ self with dr := dr } : CandZ) (.int .i64 dr) (by rw [hse]; rfl)
  obtain ⟨-, f4, -⟩ := OwnC.put HO3.out l.length 4 (by simp) (by omega) ({ self with bdr := bdr } : CandZ) (.int .i64 bdr) (by rw [hse]; rfl)
  have HO4 : Hid (OwnC (w3.setCell ⟨g, l.length * 5 + 3, none⟩ (.int .i64 dr)) W.heap.size (.slice (some ⟨g, 0, none⟩) (l.length + 1) c2) ((l ++ [self]).set l.length { self with dr := dr })) := hO4
  obtain ⟨hO5, -, -⟩ := OwnC.put HO4.out l.length 4 (by simp) (by omega) (saysZ self dr bdr) (.int .i64 bdr) (by simp; rfl)
  have hset : ((l ++ [self]).set l.length { self with dr := dr }).set l.length (saysZ self dr bdr) = l ++ [saysZ self dr bdr] := by simp
  rw [hset] at hO5
  have HO5 : Hid (OwnC ((w3.setCell ⟨g, l.length * 5 + 3, none⟩ (.int .i64 dr)).setCell ⟨g, l.length * 5 + 4, none⟩ (.int .i64 bdr)) W.heap.size (.slice (some ⟨g, 0, none⟩) (l.length + 1) c2) (l ++ [saysZ self dr bdr])) := hO5
  have HB5 : Hid (Below w.heap.size w ((w3.setCell ⟨g, l.length * 5 + 3, none⟩ (.int .i64 dr)).setCell ⟨g, l.length * 5 + 4, none⟩ (.int .i64 bdr))) := by
    have h3 : w.heap.size ≤ (⟨g, l.length * 5 + 3, none⟩ : Addr).block := by show w.heap.size ≤ g; omega
    have h4 : w.heap.size ≤ (⟨g, l.length * 5 + 4, none⟩ : Addr).block := by show w.heap.size ≤ g; omega
    exact (HB3.out.setCell h3 _).setCell h4 _
  clear hO4 hO5 HO4 hset hse HO3 HX3
  have hi1 : (l.length : Int) < ((l.length : Int) + 1) := by omega
  cases P <;> cases Q
  all_goals first | (exfalso; revert hgu; simp; done) | skip
  all_goals
    have hll2 : (l ++ [saysZ self dr bdr]).length = l.length + 1 := by simp
    have hlies5 : Lies ((w3.setCell ⟨g, l.length * 5 + 3, none⟩ (.int .i64 dr)).setCell ⟨g, l.length * 5 + 4, none⟩ (.int .i64 bdr)) (some ⟨g, 0, none⟩) (cellsOf candC (l ++ [saysZ self dr bdr])) := by
      obtain ⟨a', c', e, h, -⟩ := OwnC.more HO5.out
      rw [hll2] at e
      cases e
      exact h
    have CS := rround_any (some ⟨g, 0, none⟩) (l.length + 1) c2 (l ++ [saysZ self dr bdr]) _ hll2.symm hlies5 (by rw [hll2]; omega)
    clear hlies5
    go_wp2_with fail
    refine CS.mono ?_
    rintro e w6 ⟨dr2, bdr2, rfl, hri, hb6⟩
    obtain ⟨hdr, hbdr⟩ := round_one (said_mem (saysZ self dr bdr) l) hri
    have HE3 : Hid (E = (dr2, bdr2)) := by show _ = _; rw [HE2.out, hdr, hbdr]
    have HB6 : Hid (Below w.heap.size w w6) := below_more HB5.out hb6 HB5.out.size
    clear hri hdr hbdr hb6 CS HO5 HB5 HE2
    go_wp2
    go_ret2
    exact ⟨by rw [HE3.out]; rfl, HB6.out⟩
end Go.Proofs.Ytioimebfenklkaa
