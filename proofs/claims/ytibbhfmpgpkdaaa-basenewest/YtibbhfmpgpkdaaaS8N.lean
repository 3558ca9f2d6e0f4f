/- Of each Key the one of the greatest Seq: in plain data. -/
import Derived.Test.YtibbhfmpgpkdaaaS8L0
import Derived.Test.YtibbhfmpgpkdaaaX8C
namespace Go.Proofs.Ytibbhfmpgpkdaaa
set_option linter.unusedVariables false

def keyN (n : Int) : KeyZ := ⟨6, n % 5, 1 + n / 5 % 2⟩
def rowN (n : Int) : LsaZ := grpZ' (n % 5) (1 + n / 5 % 2) n
theorem rowN_key (n : Int) : keyZ (rowN n).head = keyN n := grp_key _ _ _
theorem rowN_seq (n : Int) : (rowN n).head.seq = n := grp_seq _ _ _
def Best (L : List Row) (ms : List Int) : Prop := (∀ r ∈ L, ∃ n ∈ ms, r.2 = rowN n ∧ ∀ n' ∈ ms, keyN n' = keyN n → n' ≤ n) ∧ (∀ n ∈ ms, ∃ r ∈ L, rk r = keyN n)
theorem best_nil : Best [] [] := ⟨fun r h => absurd h (by simp), fun n h => absurd h (by simp)⟩
theorem thereB_mem {L : List Row} {k : KeyZ} (h : Rising L) {r : Row} (hr : r ∈ L) (hk : rk r = k) : thereB L k = true ∧ L[posZ L k]? = some r := by
  obtain ⟨i, hi, rfl⟩ := List.mem_iff_getElem.1 hr
  have hp : posZ L k = i := posZ_is L k i (by omega) (fun j hj hlt => by rw [← hk]; exact rising_lt h j i hlt hi) (fun hh => by rw [hk, agZ_self]; omega)
  refine ⟨?_, by rw [hp]; exact List.getElem?_eq_getElem hi⟩
  unfold thereB; rw [hp, List.getElem?_eq_getElem hi]; show (agZ (rk L[i]) k == 0) = true; rw [hk, agZ_self]; rfl
theorem not_there {L : List Row} {k : KeyZ} (h : Rising L) (ht : thereB L k = false) : ∀ r ∈ L, rk r ≠ k := fun r hr hk => by
  have := (thereB_mem h hr hk).1; rw [ht] at this; cases this
theorem key_of_row {r : Row} {n : Int} (h : r.2 = rowN n) : rk r = keyN n := by unfold rk; rw [h, rowN_key]
theorem best_old {L : List Row} {ms : List Int} (h : Best L ms) {r : Row} (hr : r ∈ L) {n n0 : Int} (h0 : r.2 = rowN n0) (hk : rk r = keyN n) (hlt : n < n0) : Best L (ms ++ [n]) := by
  constructor
  · intro x hx
    obtain ⟨n1, hm, e, hmax⟩ := h.1 x hx
    refine ⟨n1, List.mem_append_left _ hm, e, fun n' hn' hk' => ?_⟩
    rcases List.mem_append.1 hn' with h' | h'
    · exact hmax n' h' hk'
    · obtain rfl := List.mem_singleton.1 h'
      obtain ⟨n2, hm2, e2, hmax2⟩ := h.1 r hr
      have e3 : n2 = n0 := by have := congrArg (fun l : LsaZ => l.head.seq) (e2.symm.trans h0); simpa [rowN_seq] using this
      subst e3
      have := hmax n2 hm2 (by rw [← key_of_row e2, hk, hk'])
      omega
  · intro n' hn'
    rcases List.mem_append.1 hn' with h' | h'
    · exact h.2 n' h'
    · obtain rfl := List.mem_singleton.1 h'; exact ⟨r, hr, hk⟩
theorem best_set {L : List Row} {ms : List Int} (h : Best L ms) (hR : Rising L) {p : Nat} (hp : p < L.length) {n n0 : Int} (h0 : (L[p]).2 = rowN n0) (hk : rk L[p] = keyN n) (hle : n0 ≤ n) (s' : Seats) : Best (L.set p (s', rowN n)) (ms ++ [n]) := by
  have hmax0 : ∀ n' ∈ ms, keyN n' = keyN n → n' ≤ n0 := by
    obtain ⟨n2, hm2, e2, hmax2⟩ := h.1 L[p] (List.getElem_mem hp)
    have e3 : n2 = n0 := by have := congrArg (fun l : LsaZ => l.head.seq) (e2.symm.trans h0); simpa [rowN_seq] using this
    subst e3
    intro n' hn' hk'
    exact hmax2 n' hn' (by rw [hk', ← hk, key_of_row e2])
  constructor
  · intro x hx
    obtain ⟨j, hj, rfl⟩ := List.mem_iff_getElem.1 hx
    have hjl : j < L.length := by simpa using hj
    by_cases hjp : j = p
    · subst hjp
      rw [List.getElem_set_self]
      refine ⟨n, by simp, rfl, fun n' hn' hk' => ?_⟩
      rcases List.mem_append.1 hn' with h' | h'
      · have := hmax0 n' h' hk'; omega
      · obtain rfl := List.mem_singleton.1 h'; omega
    · rw [List.getElem_set_ne (by omega)]
      obtain ⟨n1, hm, e, hmax⟩ := h.1 L[j] (List.getElem_mem hjl)
      refine ⟨n1, List.mem_append_left _ hm, e, fun n' hn' hk' => ?_⟩
      rcases List.mem_append.1 hn' with h' | h'
      · exact hmax n' h' hk'
      · obtain rfl := List.mem_singleton.1 h'
        exfalso
        have hkk : rk L[j] = rk L[p] := by rw [hk, hk', key_of_row e]
        rcases Nat.lt_or_gt_of_ne hjp with hlt | hlt
        · have := rising_lt hR j p hlt hp; rw [hkk, agZ_self] at this; omega
        · have := rising_lt hR p j hlt hjl; rw [hkk, agZ_self] at this; omega
  · intro n' hn'
    rcases List.mem_append.1 hn' with h' | h'
    · obtain ⟨r, hr, hkr⟩ := h.2 n' h'
      obtain ⟨j, hj, rfl⟩ := List.mem_iff_getElem.1 hr
      by_cases hjp : j = p
      · subst hjp
        refine ⟨(s', rowN n), List.mem_iff_getElem.2 ⟨j, by rw [List.length_set]; exact hj, by rw [List.getElem_set_self]⟩, ?_⟩
        show keyZ (rowN n).head = _
        rw [rowN_key, ← hk, hkr]
      · exact ⟨L[j], List.mem_iff_getElem.2 ⟨j, by rw [List.length_set]; exact hj, by rw [List.getElem_set_ne (by omega)]⟩, hkr⟩
    · obtain rfl := List.mem_singleton.1 h'
      exact ⟨(s', rowN n'), List.mem_iff_getElem.2 ⟨p, by rw [List.length_set]; exact hp, by rw [List.getElem_set_self]⟩, rowN_key n'⟩
theorem best_ins {L : List Row} {ms : List Int} (h : Best L ms) (hR : Rising L) {n : Int} (ht : thereB L (keyN n) = false) (p : Nat) (s' : Seats) : Best (insL L p (s', rowN n)) (ms ++ [n]) := by
  have hno := not_there hR ht
  constructor
  · intro x hx
    rcases insL_mem hx with rfl | hxL
    · refine ⟨n, by simp, rfl, fun n' hn' hk' => ?_⟩
      rcases List.mem_append.1 hn' with h' | h'
      · obtain ⟨r, hr, hkr⟩ := h.2 n' h'
        exact absurd (hkr.trans hk') (hno r hr)
      · obtain rfl := List.mem_singleton.1 h'; omega
    · obtain ⟨n1, hm, e, hmax⟩ := h.1 x hxL
      refine ⟨n1, List.mem_append_left _ hm, e, fun n' hn' hk' => ?_⟩
      rcases List.mem_append.1 hn' with h' | h'
      · exact hmax n' h' hk'
      · obtain rfl := List.mem_singleton.1 h'
        exact absurd ((key_of_row e).trans hk'.symm) (hno x hxL)
  · intro n' hn'
    have hin : ∀ r ∈ L, r ∈ insL L p (s', rowN n) := fun r hr => by
      unfold insL
      have := List.take_append_drop p L
      rw [← this] at hr
      rcases List.mem_append.1 hr with hr | hr
      · exact List.mem_append_left _ hr
      · exact List.mem_append_right _ (List.mem_cons_of_mem _ hr)
    rcases List.mem_append.1 hn' with h' | h'
    · obtain ⟨r, hr, hkr⟩ := h.2 n' h'; exact ⟨r, hin r hr, hkr⟩
    · obtain rfl := List.mem_singleton.1 h'
      exact ⟨(s', rowN n'), by unfold insL; simp, rowN_key n'⟩
theorem best_got {L : List Row} {ms : List Int} (h : Best L ms) (hR : Rising L) {n : Int} (hn : n ∈ ms) : thereB L (keyN n) = true ∧ ∃ r n0, L[posZ L (keyN n)]? = some r ∧ r.2 = rowN n0 ∧ n0 ∈ ms ∧ keyN n0 = keyN n ∧ ∀ n' ∈ ms, keyN n' = keyN n → n' ≤ n0 := by
  obtain ⟨r, hr, hk⟩ := h.2 n hn
  obtain ⟨h1, h2⟩ := thereB_mem hR hr hk
  obtain ⟨n0, hm, e, hmax⟩ := h.1 r hr
  have hk0 : keyN n0 = keyN n := by rw [← key_of_row e, hk]
  exact ⟨h1, r, n0, h2, e, hm, hk0, fun n' hn' hk' => hmax n' hn' (hk'.trans hk0.symm)⟩
theorem keyN_eq {a b : Int} (h : keyN a = keyN b) : a % 5 = b % 5 ∧ a / 5 % 2 = b / 5 % 2 := by
  unfold keyN at h
  injection h with h1 h2 h3
  omega
theorem keyN_of {a b : Int} (h1 : a % 5 = b % 5) (h2 : a / 5 % 2 = b / 5 % 2) : keyN a = keyN b := by unfold keyN; rw [h1, h2]
end Go.Proofs.Ytibbhfmpgpkdaaa
